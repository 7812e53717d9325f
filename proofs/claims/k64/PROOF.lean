import PyProof.Rows.All
import Wide.All
import OpenK.AllK
import Wide.FinOn
import Lean
import PyProof.EqAt
import PyProof.EqKinds
import PyProof.TupleCall
import PySem.Challenge.RW_websbykind_k64_whole_told_counts
set_option Elab.async false
set_option linter.all false
set_option compiler.extract_closed false
set_option bootstrap.genMatcherCode false
set_option genSizeOf false
set_option maxHeartbeats 4000000
set_option maxRecDepth 100000
set_option autoImplicit true
open PySem PySem.Spec PyProof.Rows
open PySem.W (Frag)
noncomputable section
local macro_rules|`(!$x)=>`(some $x)
local macro_rules|`(#[$x,*])=>`(⟨$x,*⟩)
local macro_rules | `(⋯)=>`(by first |decide |lia |simp)
local macro_rules | `($x⁻¹)=>`(($x).heap.objs.size)
local macro_rules|`(⇑$x)=>`((.slot $x))
local macro_rules|`(↥$x)=>`((.val (.int $x)))
local macro_rules|`(‹$x›)=>`((.dat (.int $x)))
set_option hygiene false in
local macro_rules|`(~~~5)=>`(List (List Int))
local macro_rules|`(~~~0)=>`(List Int)
set_option hygiene false in
local macro_rules|`(~~~1)=>`(List (Addr×Obj))
set_option hygiene false in
local macro_rules|`(~~~2)=>`(model X.prog X.w)
local macro_rules|`(~~~3)=>`(("__debug__":Str))
set_option hygiene false in
local macro_rules|`(~~~7)=>`(Inv X ah Y H s)
set_option hygiene false in
local macro_rules|`(tactic|symm)=>`(tactic|cases h)
abbrev aS:=@PySem.wpAny_bind
abbrev bP:=@List.mem_cons_of_mem
abbrev b0:=@List.mem_cons_self
abbrev dA:=@PySem.wpAny_pure
abbrev dC:=@PySem.Heap.get?_push_of_some
abbrev dE:=@List.getD_eq_getElem?_getD
abbrev dL:=@List.getElem?_append_left
abbrev dS:=@List.getElem?_eq_some_iff
abbrev d5:=@List.size_toArray
abbrev d6:=@List.length_map
abbrev eA:=@List.getElem?_eq_getElem
abbrev eC:=@List.mem_map
abbrev eD:=@Nat.le_refl
abbrev eI:=@List.getElem?_append_right
abbrev eJ:=@List.mem_cons
abbrev eM:=@Bool.and_eq_true
abbrev eP:=@if_neg
abbrev eQ:=@PySem.Heap.get?_push_size
abbrev eR:=@if_pos
abbrev fA:=@List.length_append
abbrev fI:=@List.mem_singleton
abbrev fN:=@PySem.Heap.lt_size
abbrev fR:=@List.getElem?_set_ne
abbrev gL:=@List.getElem?_set_self
abbrev gN:=@List.nodup_cons
abbrev hU:=@Nat.lt_of_lt_of_le
abbrev hV:=@List.length_cons
abbrev hZ:=@List.all_eq_true
abbrev i3:=@Option.bind_eq_some_iff
abbrev i4:=@of_decide_eq_true
abbrev i5:=@decide_eq_true
abbrev i6:=@List.mem_append_right
abbrev i7:=@List.map_congr_left
abbrev i8:=@List.mem_of_getElem?
abbrev i9:=@Array.length_toList
abbrev kA:=@Nat.ne_of_lt
abbrev kS:=@List.length_replicate
abbrev lL:=@List.mem_filter
abbrev lS:=@List.mem_range
abbrev l4:=@Nat.le_trans
abbrev l5:=@Option.some.inj
abbrev l6:=@List.getElem?_map
abbrev l7:=@PySem.wpAny_holding
abbrev l8:=@List.length_set
abbrev l9:=@decide_eq_true_eq
abbrev mB:=@Nat.not_lt_zero
abbrev mE:=@Int.toNat_natCast
abbrev mI:=@PySem.wpAny_mono
abbrev mM:=@PySem.Heap.get?_update_other
abbrev mN:=@decide_eq_false
abbrev mP:=@Array.getElem?_eq_getElem
abbrev nE:=@PySem.wpAny_newObj_type
abbrev nN:=@PySem.wpAny_setState_of
abbrev nS:=@Nat.lt_irrefl
abbrev nV:=@List.not_mem_nil
abbrev n0:=@List.append_nil
abbrev n4:=@PySem.Heap.get?_update_self
abbrev oC:=@List.pairwise_cons
abbrev oD:=@List.mem_append_left
abbrev oI:=@Nat.lt_succ_self
abbrev oP:=@List.getElem_mem
abbrev oQ:=@PySem.wpAny_truthy_bool
abbrev oT:=@List.nodup_append
abbrev o3:=@PySem.wpAny_call_entry
abbrev o4:=@Nat.zero_le
abbrev o5:=@List.mem_append
abbrev o6:=@PyProof.Rows.callWith_type1
abbrev pE:=@Array.getD_eq_getD_getElem?
abbrev pV:=@List.map_append
abbrev qS:=@List.nodup_nil
abbrev rV:=@List.append_assoc
abbrev sB:=@Nat.add_sub_cancel_left
abbrev sK:=@Bool.false_eq_true
abbrev sR:=@List.lookup_cons
abbrev sT:=@PySem.sizeLine_eq
abbrev tI:=@List.getElem?_take_of_lt
abbrev tJ:=@List.length_singleton
abbrev tP:=@List.getElem?_eq_none
abbrev tS:=@PySem.Heap.size_push
abbrev t0:=@List.Perm.refl
abbrev t5:=@PySem.wpAny_standAt
abbrev t6:=@Bool.false_ne_true
abbrev t7:=@PySem.wpAny_callSpecial?_slot
abbrev t8:=@PySem.W.kia_one
abbrev t9:=@List.length_take
abbrev u4:=@Nat.lt_or_ge
abbrev u7:=@Array.getElem?_eq_some_iff
abbrev u8:=@Option.map_eq_some_iff
abbrev vS:=@List.filterMap_cons
abbrev v0:=@PyProof.Rows.slot_tuple_getitem
abbrev v3:=@List.mem_map_of_mem
abbrev v4:=@PySem.Heap.SameBut.update
abbrev v6:=@List.getElem_of_mem
abbrev wE:=@List.flatMap_cons
abbrev wP:=@Ne.symm
abbrev wS:=@List.length_nil
abbrev wT:=@Bool.or_eq_true
abbrev w8:=@List.zip_cons_cons
abbrev w9:=@List.mem_replicate
abbrev xI:=@PySem.wpAny_askSetting
abbrev xL:=@beq_self_eq_true
abbrev x0:=@decide_eq_decide
abbrev x3:=@List.mem_flatMap
abbrev x4:=@List.range_eq_range'
abbrev x5:=@List.sum_cons
abbrev yA:=@List.countP_eq_length_filter
abbrev yB:=@Bool.and_false
abbrev yY:=@PySem.wpAny_seqItems
abbrev y3:=@List.pairwise_map
abbrev y4:=@Nat.le_succ
abbrev y6:=@List.replicate_succ
abbrev y7:=@Array.perm_iff_toList_perm
abbrev y8:=@PySem.F.slot_tuple_iterator_next
abbrev An:=@List.perm_ext_iff_of_nodup
abbrev Ap:=@PySem.wpAny_forIn_list
abbrev At:=@PySem.wpAny_pyIter_tuple
abbrev AA:=@Array.getElem?_toList
abbrev AB:=@Nat.zero_add
abbrev AC:=@List.pairwise_reverse
abbrev AD:=@PySem.Obj.data_mapFields
abbrev AE:=@List.set_append_right
abbrev AF:=@List.pairwise_iff_getElem
abbrev AG:=@Classical.byContradiction
abbrev AH:=@PySem.wpAny_passesOwn
abbrev AI:=@PySem.wpAny_pyIter_list
abbrev AJ:=@Option.map_some
abbrev AK:=@Nat.lt_succ_of_lt
abbrev AL:=@List.length_range
abbrev AM:=@Nat.lt_trichotomy
abbrev AO:=@Nat.succ_pos
abbrev AQ:=@PySem.mem_of_lookup
abbrev AR:=@PySem.F.plainAttrs_list
abbrev AS:=@List.mem_singleton_self
abbrev AT:=@List.ext_getElem
abbrev AU:=@List.any_eq_true
abbrev AV:=@PySem.wpAny_Call_Name_kw
abbrev AW:=@PySem.wpAny_specialOf
abbrev AX:=@List.nil_append
abbrev AY:=@List.take_append_drop
abbrev AZ:=@PySem.codeAny_builtin
abbrev A3:=@List.cons.injEq
abbrev A4:=@List.map_set
abbrev A5:=@PySem.wpAny_rule
abbrev A6:=@PySem.plainId_quiet
abbrev A7:=@Nat.pow_le_pow_right
abbrev A8:=@List.getElem?_eq_none_iff
abbrev A9:=@or_false
abbrev Bi:=@PySem.F.plain_min_loop
abbrev Bn:=@List.getElem?_range
abbrev Bz:=@List.filter_sublist
abbrev BA:=@PySem.F.args_tuple_add_2
abbrev BB:=@PySem.F.entry_tuple_add
abbrev BC:=@Nat.lt_of_lt_of_eq
abbrev BD:=@Array.Perm.refl
abbrev BE:=@PySem.wpAny_updateSeq
abbrev BF:=@Array.forIn_toList
abbrev BH:=@PySem.F.slot_tuple_add
abbrev BI:=@Nat.lt_of_succ_lt_succ
abbrev BM:=@List.take_of_length_le
abbrev BN:=@PySem.wpAny_field
abbrev BO:=@List.Sublist.refl
abbrev BQ:=@Nat.le_of_lt_succ
abbrev BS:=@PySem.wpAny_setField
abbrev BU:=@PySem.wpAny_tryCatch
abbrev BY:=@PySem.wpAny_typeOf
abbrev B0:=@Nat.succ.inj
abbrev B6:=@Nat.sub_self
abbrev B8:=@List.contains_iff_mem
abbrev B9:=@Nat.le_add_right
abbrev Cc:=@PySem.F.entry_min_loop
abbrev Cf:=@List.range'_succ
abbrev Cn:=@List.reverse_reverse
abbrev Co:=@List.set_append_left
abbrev CA:=@Array.mem_toList_iff
abbrev CB:=@beq_eq_false_iff_ne
abbrev CD:=@Nat.min_eq_left
abbrev CF:=@List.length_reverse
abbrev CH:=@PySem.wpAny_of_eq
abbrev CI:=@Bool.decide_and
abbrev CL:=@Nat.le_of_lt
abbrev CM:=@Int.le_trans
abbrev CO:=@Nat.add_zero
abbrev CS:=@Int.zero_add
abbrev CU:=@if_true
theorem nt{p:Prop}(h:false=true):p:=Bool.noConfusion h
namespace L2
def ji(s:Stmt):Arguments:=match s with
 |.FunctionDef _ a _ _ _ _ _ _ _ _=>a
 |_=>{ posonlyargs:=[],args:=[],vararg:=none,kwonlyargs:=[],kw_defaults:=[],kwarg:=none,defaults:=[]}
def bV(s:Stmt):List Stmt:=match s with
 |.FunctionDef _ _ b _ _ _ _ _ _ _=>b
 |_=>[]
def aR(s:Stmt):Scope:=match s with
 |.FunctionDef _ _ _ _ _ _ sc _ _ _=>sc
 |_=>{ kind:=.function,names:=[],isGenerator:=false,isCoroutine:=false}
end L2
namespace Ev
open L2
noncomputable def sr(qs:List Addr)(K:Params->Frag)(P:Params):Frag:=qs.map (λq=>(q,{ cls:=.none,data:=.fields ([].toArray)}))++K P
section
open PySem.W
noncomputable def N1(tb:String->Option Builtin)(p:Program)(w:World)(n₀:Nat)(ann:Option Value):Nat->SharedT->Thread->Option SharedT
 | 0,_,_=>none
 |n+1,s,t=>match through t with
  |true=>!s
  |false=>match stepOk n₀ ann t with
   |false=>none
   |true=>match stepT (denote tb) p w s t with
    |!(s',t')=>N1 tb p w n₀ ann n s' t'
    |none=>none
theorem Bh:∀{n:Nat}{s s':SharedT}{t:Thread},N1 tb p w n₀ ann n s t=!s'->topRun tb p w n₀ ann n s.abs t=!s'.abs
 | 0,_,_,_,h=>by symm
 |n+1,s,s',t,h=>by
  unfold N1 at h;unfold topRun;cases he:through t with
  |true=>rw[he]at h;symm;rfl
  |false=>
   rw[he]at h;cases hk:stepOk n₀ ann t with
   |false=>rw[hk]at h;symm
   |true=>
    rw[hk]at h;cases hs:stepT (denote tb) p w s t with
    |none=>rw[hs]at h;symm
    |some r=>obtain⟨s₂,t₂⟩:=r;rw[hs]at h;rw[stepT_spec hs];exact Bh h
noncomputable def SJ:BT->Nat->List Obj->BT
 |t,_,[]=>t
 |t,n,o::os=>SJ (t.ins n o) (n+1) os
noncomputable def HB(P:Params):BT:=SJ .nil 0 (boot_heap P).objs.toList
theorem HD(P:Params):absHeap (HB P) 11 (boot_heap P).life=boot_heap P:=by kernel_rfl
noncomputable abbrev AN (P:Params):Option Value:=(boot_heap P).nsMap mainGlobals "__annotations__"
theorem DR{p q:Program}{loose:List Str}{Xt:Shared->Bool}{α:Type}{Yf:Shared->α}{Ya:World->α}{N:Nat}{ann:Option Value}
  (e:opening p=plainProg p.main.scope.names) (hN:Nat.ble 600 N=true) (f:∀s,fenceModules? p s=!s) (ha:∀P,AN P=ann)
  (run:∀(w:World) (os:OsState),(N1 treeTable p w 11 ann N #[HB w.params,11,(boot_heap w.params).life,([].toArray),boot_drawn,boot_toks,os] (topStub p)).map (λs=>
   (staticsOk (importedModules p.main.body) (boot_heap w.params) s.abs.heap&&namesBound p s.abs.heap&&gensDone s.abs&&laidKept (boot_heap w.params) s.abs.heap,openSeen q loose (importedModules p.main.body) Xt true s.abs,Yf s.abs))=!(true,openGood q loose,Ya w)):LeftO p q loose Xt Yf Ya N:=λw=>by
 obtain⟨⟨h,gs,d,k,os⟩,e1,e2⟩:=u8.mp (boot_open e hN f w);obtain⟨rfl,rfl,rfl,rfl⟩:h=boot_heap w.params/\gs=Array.mk []/\d=boot_drawn/\k=boot_toks:=by simpa using e2
 obtain⟨s,r1,r2⟩:=u8.mp (run w os);obtain⟨l1,l2,l3⟩:_/\_/\_:=by simpa only[Prod.mk.injEq]using r2
 have r:=Bh r1;unfold openEnds;rw[e1];show (topFrom treeTable p w N _).map _=_;have z0:((boot_heap w.params).isNs mainGlobals&&(Array.mk []:Array GenState).size==0)=true:=by kernel_rfl
 have t:topFrom treeTable p w N #[boot_heap w.params,Array.mk [],boot_drawn,boot_toks,os]=!s.abs:=by
  unfold topFrom;dsimp only;rw[z0];have r':topRun treeTable p w (boot_heap w.params).objs.size ((boot_heap w.params).nsMap mainGlobals "__annotations__") N #[boot_heap w.params,Array.mk [],boot_drawn,boot_toks,os] (topStub p)=!s.abs:=by
   have:=ha w.params;unfold AN at this;rw[this];have z:SharedT.abs #[HB w.params,11,(boot_heap w.params).life,([].toArray),boot_drawn,boot_toks,os]=#[boot_heap w.params,Array.mk [],boot_drawn,boot_toks,os]:=by unfold SharedT.abs;dsimp only;rw[HD]
   rw[z]at r;exact r
  rw[r'];show (match staticsOk (importedModules p.main.body) (boot_heap w.params) s.abs.heap&&namesBound p s.abs.heap&&gensDone s.abs&&laidKept (boot_heap w.params) s.abs.heap with |true=>_ |false=>_)=_
  rw[l1]
 rw[t];exact congrArg some (Prod.ext l2 l3)
theorem Zu(P:Params):AN P=!(.ref 6):=by kernel_rfl
end
end Ev
namespace iJ
open L2 Ev
def st(j:Nat):Stmt:=PySem.Challenge.pw_websbykind_k64_whole_told_counts.main.body.getD j (.Pass #[0,0,0,0])
noncomputable def de(P:Params)(s:Str)(t:Tok)(v:Value):DictEntry:=#[PyData.keyHash P s,.str s t,v]
noncomputable def co(vs:Array Value):Obj:=#[.type "code",none,.fields vs,([].toArray)]
noncomputable def fo(j:Nat)(n:Str)(kV doc pm:Value)(an:Option Addr)(gj ct:Value):Obj:=#[.type "function",none,.func (PySem.W.fnOf n n (ji (st j)) (bV (st j)) (aR (st j)) .none kV doc pm an gj ct),([].toArray)]
noncomputable def ce(n:Str)(b a s r t u:Nat):Obj:=#[.type "type",none,.cls #[n,[.ref b],[.ref a,.ref b,.type "ValueError",.type "Exception",.type "BaseException",.type "object"],s,n,true,[],[],false,none,false],([!(.ref r),none,!(.str n t),!(.str n u),!(.builtin "ValueError.__new__"),!(.bool true)].toArray)]
def cd(n:Str)(t l p r:Nat)(x y z:Value)(u:Nat):Obj:=co ([.str n t,.str n (t+1),.str "/claim/cut.py" (t+2),.int l 0,.int p 0,.int 0 0,.int 0 0,.int 3 0,.ref r,.bool true,.int 181 0,.ref (r+1),.none,x,y,z,.int u 0,.int l 0,.str "/claim/cut.py" (u+1)].toArray)
def fq(j:Nat)(n:Str)(m:Value)(c:Addr):Obj:=fo j n .none .none m none (.ref c) .none
def m0:Value:=.str "websbykind.whole" 266
def m1:Value:=.str "websbykind.kinds" 292
def m2:Value:=.str "websbykind.webs" 300
def m3:Value:=.str "websbykind.alike" 355
def m4:Value:=.str "websbykind.counts" 377
def m5:Value:=.str "law_websbykind_k64_whole_told_counts" 474
def K(P:Params):Frag:=
 (nat_lit 3,#[.type "dict",none,.dict ([de P "__name__" 165 (.str "law_websbykind_k64_whole_told_counts" 474),de P "__doc__" 166 (.none),de P "__package__" 167 (.none),de P "__loader__" 168 (.builtin "__main__.__loader__#opaque"),de P "__spec__" 169 (.none),de P "__annotations__" 170 (.ref 6),de P "__builtins__" 171 (.ref 4),de P "__file__" 173 (.str "/claim/cut.py" 172),de P "__cached__" 174 (.none),de P "KindError" 206 (.ref 24),de P "NoWeb" 222 (.ref 37),de P "NoCounts" 238 (.ref 49),de P "TooGreat" 265 (.ref 68),de P "is_whole" 274 (.ref 77),de P "is_within" 283 (.ref 84),de P "must_be_few" 291 (.ref 91),de P "is_falling" 299 (.ref 96),de P "MOST_PLACES" 303 (.int 6 302),de P "is_web" 309 (.ref 101),de P "is_tie" 315 (.ref 106),de P "is_rising" 321 (.ref 111),de P "must_be_web" 328 (.ref 118),de P "led_on" 334 (.ref 123),de P "tie_of" 342 (.ref 130),de P "pairs_of" 348 (.ref 135),de P "tied_places" 354 (.ref 140),de P "all_alike" 362 (.ref 145),de P "all_turns" 368 (.ref 150),de P "form" 374 (.ref 155),de P "MOST_FORMED" 376 (.int 5 375),de P "MOST_COUNTS" 380 (.int 12 379),de P "is_counts" 386 (.ref 160),de P "must_be_counts" 393 (.ref 167),de P "counts_of" 399 (.ref 172),de P "has_web" 406 (.ref 179),de P "is_none_paper" 414 (.ref 186),de P "is_odd" 421 (.ref 193),de P "is_much" 427 (.ref 198),de P "none_paper" 433 (.ref 203),de P "must_be_few_counts" 441 (.ref 210),de P "webs_with" 448 (.ref 217),de P "first_web" 455 (.ref 224),de P "kinds_with" 461 (.ref 229),de P "webs_at" 467 (.ref 234),de P "with_or_without" 473 (.ref 239),de P "_law_near" 481 (.ref 244),de P "_law_cell_at" 489 (.ref 251),de P "_law_state" 498 (.ref 258),de P "_law_take" 508 (.ref 265),de P "_law_counts" 514 (.ref 270),de P "_law_named" 525 (.ref 277),de P "_law_mixed" 535 (.ref 284),de P "_law_tree" 546 (.ref 291),de P "_law_web" 552 (.ref 296),de P "_law_right" 558 (.ref 301),de P "law" 569 (.ref 308)].toArray) 56,([].toArray)]) ::
 (nat_lit 4,#[.type "module",(!0),.plain,([].toArray)]) ::
 (nat_lit 76,cd "is_whole" 268 14 1 71 (.ref 73) (.ref 74) (.ref 75) 272) ::
 (nat_lit 77,fq 6 "is_whole" m0 76) ::
 (nat_lit 83,cd "is_within" 275 16 3 78 (.ref 80) (.ref 81) (.ref 82) 281) ::
 (nat_lit 84,fq 7 "is_within" m0 83) ::
 (nat_lit 90,cd "must_be_few" 284 18 2 85 (.ref 87) (.ref 88) (.ref 89) 289) ::
 (nat_lit 91,fq 8 "must_be_few" m0 90) ::
 (nat_lit 95,cd "is_falling" 294 22 1 92 .none .none (.ref 94) 297) ::
 (nat_lit 96,fq 10 "is_falling" m1 95) ::
 (nat_lit 100,cd "is_web" 304 26 1 97 .none .none (.ref 99) 307) ::
 (nat_lit 101,fq 13 "is_web" m2 100) ::
 (nat_lit 105,cd "is_tie" 310 33 2 102 .none .none (.ref 104) 313) ::
 (nat_lit 106,fq 14 "is_tie" m2 105) ::
 (nat_lit 110,cd "is_rising" 316 37 1 107 .none .none (.ref 109) 319) ::
 (nat_lit 111,fq 15 "is_rising" m2 110) ::
 (nat_lit 117,cd "must_be_web" 322 39 1 112 (.ref 114) (.ref 115) (.ref 116) 326) ::
 (nat_lit 118,fq 16 "must_be_web" m2 117) ::
 (nat_lit 122,cd "led_on" 329 42 2 119 .none .none (.ref 121) 332) ::
 (nat_lit 123,fq 17 "led_on" m2 122) ::
 (nat_lit 129,cd "tie_of" 335 45 2 124 (.ref 126) (.ref 127) (.ref 128) 340) ::
 (nat_lit 130,fq 18 "tie_of" m2 129) ::
 (nat_lit 134,cd "pairs_of" 343 47 1 131 .none .none (.ref 133) 346) ::
 (nat_lit 135,fq 19 "pairs_of" m2 134) ::
 (nat_lit 139,cd "tied_places" 349 49 2 136 .none .none (.ref 138) 352) ::
 (nat_lit 140,fq 20 "tied_places" m2 139) ::
 (nat_lit 144,cd "all_alike" 357 56 1 141 .none .none (.ref 143) 360) ::
 (nat_lit 145,fq 22 "all_alike" m3 144) ::
 (nat_lit 149,cd "all_turns" 363 59 1 146 .none .none (.ref 148) 366) ::
 (nat_lit 150,fq 23 "all_turns" m3 149) ::
 (nat_lit 154,cd "form" 369 64 1 151 .none .none (.ref 153) 372) ::
 (nat_lit 155,fq 24 "form" m3 154) ::
 (nat_lit 159,cd "is_counts" 381 70 1 156 .none .none (.ref 158) 384) ::
 (nat_lit 160,fq 28 "is_counts" m4 159) ::
 (nat_lit 166,cd "must_be_counts" 387 74 1 161 (.ref 163) (.ref 164) (.ref 165) 391) ::
 (nat_lit 167,fq 29 "must_be_counts" m4 166) ::
 (nat_lit 171,cd "counts_of" 394 77 1 168 .none .none (.ref 170) 397) ::
 (nat_lit 172,fq 30 "counts_of" m4 171) ::
 (nat_lit 178,cd "has_web" 400 81 1 173 (.ref 175) (.ref 176) (.ref 177) 404) ::
 (nat_lit 179,fq 31 "has_web" m4 178) ::
 (nat_lit 185,cd "is_none_paper" 407 83 2 180 (.ref 182) (.ref 183) (.ref 184) 412) ::
 (nat_lit 186,fq 32 "is_none_paper" m4 185) ::
 (nat_lit 192,cd "is_odd" 415 92 1 187 (.ref 189) (.ref 190) (.ref 191) 419) ::
 (nat_lit 193,fq 33 "is_odd" m4 192) ::
 (nat_lit 197,cd "is_much" 422 94 2 194 .none .none (.ref 196) 425) ::
 (nat_lit 198,fq 34 "is_much" m4 197) ::
 (nat_lit 202,cd "none_paper" 428 97 1 199 .none .none (.ref 201) 431) ::
 (nat_lit 203,fq 35 "none_paper" m4 202) ::
 (nat_lit 209,cd "must_be_few_counts" 434 103 2 204 (.ref 206) (.ref 207) (.ref 208) 439) ::
 (nat_lit 210,fq 36 "must_be_few_counts" m4 209) ::
 (nat_lit 216,cd "webs_with" 442 106 1 211 (.ref 213) (.ref 214) (.ref 215) 446) ::
 (nat_lit 217,fq 37 "webs_with" m4 216) ::
 (nat_lit 223,cd "first_web" 449 109 1 218 (.ref 220) (.ref 221) (.ref 222) 453) ::
 (nat_lit 224,fq 38 "first_web" m4 223) ::
 (nat_lit 228,cd "kinds_with" 456 112 1 225 .none .none (.ref 227) 459) ::
 (nat_lit 229,fq 39 "kinds_with" m4 228) ::
 (nat_lit 233,cd "webs_at" 462 115 1 230 .none .none (.ref 232) 465) ::
 (nat_lit 234,fq 40 "webs_at" m4 233) ::
 (nat_lit 238,cd "with_or_without" 468 121 3 235 .none .none (.ref 237) 471) ::
 (nat_lit 239,fq 41 "with_or_without" m4 238) ::
 (nat_lit 243,cd "_law_near" 476 131 2 240 .none .none (.ref 242) 479) ::
 (nat_lit 244,fq 43 "_law_near" m5 243) ::
 (nat_lit 250,cd "_law_cell_at" 482 133 2 245 (.ref 247) (.ref 248) (.ref 249) 487) ::
 (nat_lit 251,fq 44 "_law_cell_at" m5 250) ::
 (nat_lit 257,cd "_law_state" 490 137 2 252 (.ref 254) (.ref 255) (.ref 256) 496) ::
 (nat_lit 258,fq 45 "_law_state" m5 257) ::
 (nat_lit 264,cd "_law_take" 499 142 2 259 (.ref 261) (.ref 262) (.ref 263) 506) ::
 (nat_lit 265,fq 46 "_law_take" m5 264) ::
 (nat_lit 269,cd "_law_counts" 509 151 2 266 .none .none (.ref 268) 512) ::
 (nat_lit 270,fq 47 "_law_counts" m5 269) ::
 (nat_lit 276,cd "_law_named" 515 172 2 271 (.ref 273) (.ref 274) (.ref 275) 523) ::
 (nat_lit 277,fq 48 "_law_named" m5 276) ::
 (nat_lit 283,cd "_law_mixed" 526 177 2 278 (.ref 280) (.ref 281) (.ref 282) 533) ::
 (nat_lit 284,fq 49 "_law_mixed" m5 283) ::
 (nat_lit 290,cd "_law_tree" 536 183 2 285 (.ref 287) (.ref 288) (.ref 289) 544) ::
 (nat_lit 291,fq 50 "_law_tree" m5 290) ::
 (nat_lit 295,cd "_law_web" 547 189 1 292 .none .none (.ref 294) 550) ::
 (nat_lit 296,fq 51 "_law_web" m5 295) ::
 (nat_lit 300,cd "_law_right" 553 210 1 297 .none .none (.ref 299) 556) ::
 (nat_lit 301,fq 52 "_law_right" m5 300) ::
 (nat_lit 307,cd "law" 559 230 1 302 (.ref 304) (.ref 305) (.ref 306) 567) ::
 (nat_lit 308,fq 53 "law" m5 307)::[]
noncomputable def as:List Addr:=nat_lit 3::nat_lit 4::nat_lit 76::nat_lit 77::nat_lit 83::nat_lit 84::nat_lit 90::nat_lit 91::nat_lit 95::nat_lit 96::nat_lit 100::nat_lit 101::nat_lit 105::nat_lit 106::nat_lit 110::nat_lit 111::nat_lit 117::nat_lit 118::nat_lit 122::nat_lit 123::nat_lit 129::nat_lit 130::nat_lit 134::nat_lit 135::nat_lit 139::nat_lit 140::nat_lit 144::nat_lit 145::nat_lit 149::nat_lit 150::nat_lit 154::nat_lit 155::nat_lit 159::nat_lit 160::nat_lit 166::nat_lit 167::nat_lit 171::nat_lit 172::nat_lit 178::nat_lit 179::nat_lit 185::nat_lit 186::nat_lit 192::nat_lit 193::nat_lit 197::nat_lit 198::nat_lit 202::nat_lit 203::nat_lit 209::nat_lit 210::nat_lit 216::nat_lit 217::nat_lit 223::nat_lit 224::nat_lit 228::nat_lit 229::nat_lit 233::nat_lit 234::nat_lit 238::nat_lit 239::nat_lit 243::nat_lit 244::nat_lit 250::nat_lit 251::nat_lit 257::nat_lit 258::nat_lit 264::nat_lit 265::nat_lit 269::nat_lit 270::nat_lit 276::nat_lit 277::nat_lit 283::nat_lit 284::nat_lit 290::nat_lit 291::nat_lit 295::nat_lit 296::nat_lit 300::nat_lit 301::nat_lit 307::nat_lit 308::[]
def as2:List Addr:=nat_lit 303 ::  as
noncomputable def qv:Program:={ PySem.Challenge.pw_websbykind_k64_whole_told_counts with main:={ PySem.Challenge.pw_websbykind_k64_whole_told_counts.main with body:=[st 1,st 2,st 3,st 4,st 6,st 7,st 8,st 10,st 12,st 13,st 14,st 15,st 16,st 17,st 18,st 19,st 20,st 22,st 23,st 24,st 25,st 27,st 28,st 29,st 30,st 31,st 32,st 33,st 34,st 35,st 36,st 37,st 38,st 39,st 40,st 41,st 43,st 44,st 45,st 46,st 47,st 48,st 49,st 50,st 51,st 52,st 53]}}
theorem Zv(P:Params):as2=(sr [303] K P).map (·.1):=by kernel_rfl
theorem op:PySem.W.opening PySem.Challenge.rw_websbykind_k64_whole_told_counts.row.prog=PySem.W.plainProg PySem.Challenge.rw_websbykind_k64_whole_told_counts.row.prog.main.scope.names:=by kernel_rfl
theorem fe:∀s,PySem.fenceModules? PySem.Challenge.rw_websbykind_k64_whole_told_counts.row.prog s=!s:=λs=>by kernel_rfl
theorem hl:PySem.W.LeftO PySem.Challenge.rw_websbykind_k64_whole_told_counts.row.prog qv [] (λs=>PySem.W.xlAt qv [] s&&PySem.W.recOk (PySem.W.OpenRow.toRowW PySem.Challenge.rw_websbykind_k64_whole_told_counts.row).records s) (λs=>as2.map s.heap.get?) (λw=>(sr [303] K w.params).map λp:Nat×Obj=>!p.2) 8000:=DR op ⋯ fe Zu λw os=>by kernel_rfl
end iJ
namespace Ev
open PySem PySem.W
end Ev
namespace L2
abbrev Key:=Sum Int Str
noncomputable def SM:Key->Value->Bool
 |.inl k,v=>Value.isInt k v
 |.inr x,v=>Value.isStrOf x v
noncomputable def keyH(w:World):Key->Int
 |.inl k=>hashInt k
 |.inr x=>hashStr w x
theorem bF:∀{k:Key}{v:Value},SM k v=true->(∃i t,k=Sum.inl i/\v=Value.int i t)\/(∃x t,k=Sum.inr x/\v=Value.str x t)
 |.inl i,v,h=>by
  obtain⟨t,e⟩:=Value.isInt_shape h;exact .inl #[i,t,rfl,e]
 |.inr x,v,h=>by
  obtain⟨t,e⟩:=Value.isStrOf_shape h;exact .inr #[x,t,rfl,e]
theorem Ui(a b:Int):decide ((Sum.inl a:Key)=Sum.inl b)=(a==b):=by
 by_cases e:a=b
 . subst e;simp
 .
  have h : ¬ (Sum.inl a:Key)=Sum.inl b:=λq=>e (Sum.inl.inj q)
  rw[mN h];exact (CB.mpr e).symm
theorem Uj(a b:Str):decide ((Sum.inr a:Key)=Sum.inr b)=decide (a=b):=by
 by_cases e:a=b
 . subst e;simp
 .
  have h : ¬ (Sum.inr a:Key)=Sum.inr b:=λq=>e (Sum.inr.inj q)
  rw[mN h,mN e]
theorem Uk(a:Int)(b:Str):decide ((Sum.inl a:Key)=Sum.inr b)=false:=mN (λq=>nomatch q)
theorem Ul(a:Str)(b:Int):decide ((Sum.inr a:Key)=Sum.inl b)=false:=mN (λq=>nomatch q)
def uv(prog:Program)(w:World):PySem.KeyKind prog w Key where
 is:=SM
 hash:=keyH w
 inj:=λv a b ha hb=>by
  rcases bF ha with ⟨i,t,rfl,rfl⟩ |⟨x,t,rfl,rfl⟩
  .
   rcases bF hb with ⟨j,u,rfl,e⟩ |⟨y,u,rfl,e⟩
   . injection e with e1 _;rw[e1]
   . exact nomatch e
  .
   rcases bF hb with ⟨j,u,rfl,e⟩ |⟨y,u,rfl,e⟩
   . exact nomatch e
   . injection e with e1 _;rw[e1]
 byValue:=λk v h=>by
  rcases bF h with ⟨i,t,rfl,rfl⟩ |⟨x,t,rfl,rfl⟩ <;> rfl
 pyHash:=λhv h=>by
  rcases bF hv with ⟨i,t,rfl,rfl⟩ |⟨x,t,rfl,rfl⟩
  . exact wpAny_pyHash_int h
  . exact wpAny_pyHash_str h
 eqBool:=λhu hv h=>by
  rcases bF hu with ⟨i,t,rfl,rfl⟩ |⟨x,t,rfl,rfl⟩
  .
   rcases bF hv with ⟨j,u,rfl,rfl⟩ |⟨y,u,rfl,rfl⟩
   . rw[Ui]at h;exact wpAny_eqBool_int h
   . rw[Uk]at h;exact SeqAt.EqAt.int_str i t y u _ _ _ _ h
  .
   rcases bF hv with ⟨j,u,rfl,rfl⟩ |⟨y,u,rfl,rfl⟩
   . rw[Ul]at h;exact SeqAt.EqAt.str_int x t j u _ _ _ _ h
   . rw[Uj]at h;exact wpAny_eqBool_str h
 «strs»:=λk x t v h=>by
  rcases bF h with ⟨i,u,rfl,e⟩ |⟨y,u,rfl,e⟩
  . exact nomatch e
  . injection e with e1 _;subst e1;cases v <;> rfl
inductive V where
 |non |bl (b:Bool) |int (i:Int) |str (x:Str) |SN (b:Array UInt8) |flt (b:UInt64) |ref (a:Addr) |ty (n:String)
 deriving DecidableEq
noncomputable def RelV:V->Value->Prop
 |.non,u=>u=Value.none
 |.bl b,u=>u=Value.bool b
 |.int i,u=>∃t,u=Value.int i t
 |.str x,u=>∃t,u=Value.str x t
 |.SN b,u=>∃t,u=Value.bytes b t
 |.flt b,u=>∃t,u=Value.float b t
 |.ref a,u=>u=Value.ref a
 |.ty n,u=>u=Value.type n
abbrev Vals:List V->List Value->Prop:=Paired RelV
theorem Vals.length{xs:List V}{us:List Value}(r:Vals xs us):xs.length=us.length:=Paired.length r
theorem Vals.get:∀{xs:List V}{us:List Value}{i:Nat}{x:V},Vals xs us->xs[i]?=!x->∃u,us[i]?=!u/\RelV x u
 |_,_,_,_,.nil,e=>by simp at e
 |_,_,0,_,.cons r _,e=>by simp at e;subst e;exact#[_,rfl,r]
 |_,_,i+1,x,.cons _ t,e=>by
  obtain⟨u,h1,h2⟩:=Vals.get t (by simpa using e)
  exact#[u,by simpa using h1,h2]
theorem Vals.set(r:RelV x u):∀{xs:List V}{us:List Value} (i:Nat),Vals xs us->Vals (xs.set i x) (us.set i u)
 |_,_,_,.nil=>.nil
 |_,_,0,.cons _ t=>.cons r t
 |_,_,i+1,.cons q t=>.cons q (Vals.set r i t)
theorem Vals.append:∀{xs ys:List V}{us ws:List Value},Vals xs us->Vals ys ws->Vals (xs++ys) (us++ws):=by
 intro xs ys us ws h s
 induction h with
 |nil=>exact s
 |cons r t ih=>exact .cons r ih
theorem Vals.take:∀{xs:List V}{us:List Value} (n:Nat),Vals xs us->Vals (xs.take n) (us.take n)
 |_,_,0,_=>.nil
 |_,_,_+1,.nil=>.nil
 |_,_,n+1,.cons r t=>.cons r (Vals.take n t)
theorem Vals.drop:∀{xs:List V}{us:List Value} (n:Nat),Vals xs us->Vals (xs.drop n) (us.drop n)
 |_,_,0,r=>r
 |_,_,_+1,.nil=>.nil
 |_,_,n+1,.cons _ t=>Vals.drop n t
def Zw:Option V->Option Value->Prop
 |!v,!u=>RelV v u
 |none,none=>True
 |_,_=>False
def KV{κ:Type}:List (κ×V)->List (κ×Value)->Prop:=Paired λ(p:κ×V) (q:κ×Value)=>p.1=q.1/\RelV p.2 q.2
noncomputable def kV:Key->V
 |.inl i=>.int i
 |.inr x=>.str x
inductive HO where
 |lst (xs:List V)
 |tup (xs:List V)
 |dK (mQ:List (Key×V)) |dT (mQ:List (List Key×V))
 |set (φ:Obj->Prop)
 |ins (C dx:Addr) (fs:List (Str×V))
 |own (x:Addr)
 |xd (fs:List (Str×V))
 |met (f x:Addr)
 |rng (lo hi:Int)
 |DS (o:Obj) (u:HO)
 |Ht (ps:Array Value)
 |ext (φ:Heap->Prop)
abbrev Hp:=Addr->Option HO
noncomputable def upd(H:Hp)(a:Addr)(o:HO):Hp:=λb=>if b=a then some o else H b
theorem aE:upd H a o a=!o:=by unfold upd;rw[eR rfl]
theorem aC(h:b≠a):upd H a o b=H b:=by unfold upd;rw[eP h]
theorem aL{H:Hp}{a b:Addr}{o:HO}(h:H a=!o)(h':H b=none):a≠b:=by intro e;subst e;rw[h]at h';cases h'
def iz(h:Heap)(a:Addr)(its:Array Value):Prop:=∃o,h.get? a=!o/\(o.cls=.type "tuple" /\∃n,o.data=.seq its n)/\o.dict=none
theorem iz.tup{h:Heap}{a:Addr}{its:Array Value}(x:iz h a its):IsTup h a its:=let #[o,e,c,_]:=x;#[o,e,c]
theorem iz.new(h:Heap)(its:Array Value):iz (h.push { cls:=.type "tuple",data:=.seq its}) h.objs.size its:=#[_,eQ _ rfl,#[rfl,_,rfl],rfl]
section
variable(P:Program)(w:World)
def eE(H:Hp)(h:Heap)(a:Addr):HO->Prop
 |.lst xs=>xs.length<=sizeLine/\∃(its:List Value) (n:Nat),Vals xs its/\h.get? a=some { cls:=.type "list",data:=.seq its.toArray n}
 |.tup xs=>xs.length<=sizeLine/\∃its:List Value,Vals xs its/\iz h a its.toArray
 |.dK mQ=>mQ.length<=sizeLine/\(a==sysModules)=false/\∃vs,KV mQ vs/\h.DictOf (uv P w) a vs
 |.dT mQ=>mQ.length<=sizeLine/\(a==sysModules)=false/\∃xs:List (List Key×Addr×Value),
   Paired (λ(p:List Key×V) (q:List Key×Addr×Value)=>p.1=q.1/\H q.2.1=!(.tup (p.1.map kV))/\RelV p.2 q.2.2) mQ xs/\
   ∃o es ep,h.get? a=!o/\o.ExactDict/\o.data=.dict es ep/\es.toList=xs.map (entryOfKey (tupleKind (uv P w)))/\(xs.map (·.1)).Nodup
 |.set φ=>∃o,h.get? a=!o/\φ o
 |.ins C dx fs=>H dx=!(.own a)/\fs.length<=1000/\dx≠a/\h.get? a=!(PySem.W.instObj C dx)/\
   ∃mA,h.Ns1 dx mA/\(∀f,Zw (fs.lookup f) (mA f))/\PySem.Within mA (fs.map (·.1))
 |.own _=>∃o,h.get? a=!o
 |.xd fs=>∃mA,h.Ns1 a mA/\∀f,Zw (fs.lookup f) (mA f)
 |.rng lo hi=>∃t u v,h.get? a=some { cls:=.type "range",data:=.fields ([.int lo t,.int hi u,.int 1 v].toArray)}
 |.DS o u=>h.get? a=!o/\eE H h a u
 |.Ht ps=>h.get? a=some { cls:=.none,data:=.fields ps}
 |.met f x=>h.get? a=!(PySem.W.methodObj (.ref f) (.ref x))
 |.ext φ=>φ h/\(∃o,h.get? a=!o)/\∀h1 h2:Heap,φ h1->(∀o,h1.get? a=!o->h2.get? a=!o)->φ h2
def oG(H:Hp)(h:Heap):Prop:=∀a o,H a=!o->eE P w H h a o
end
section
variable{P:Program}{w:World}{H H':Hp}{h h':Heap}{a:Addr}{o:HO}
theorem eE.lt(x:eE P w H h a o):a<h.objs.size:=by
 cases o with
 |lst xs=>obtain⟨_,_,_,_,e⟩:=x;exact fN e
 |tup xs=>obtain⟨_,_,_,_,e,_⟩:=x;exact fN e
 |dK mQ=>obtain⟨_,_,_,_,o,_,_,e,_⟩:=x;exact fN e
 |dT mQ=>obtain⟨_,_,_,_,o,_,_,e,_⟩:=x;exact fN e
 |set φ=>obtain⟨o,e,_⟩:=x;exact fN e
 |ins C dx fs=>obtain⟨_,_,_,e,_⟩:=x;exact fN e
 |own y=>obtain⟨_,e⟩:=x;exact fN e
 |xd fs=>obtain⟨_,⟨_,_,_,e,_⟩,_⟩:=x;exact fN e
 |rng lo hi=>obtain⟨_,_,_,e⟩:=x;exact fN e
 |DS ob u=>obtain⟨e,_⟩:=x;exact fN e
 |Ht ps=>exact fN (show h.get? a=!_ from x)
 |met f y=>exact fN (show h.get? a=!_ from x)
 |ext φ=>obtain⟨_,⟨_,e⟩,_⟩:=x;exact fN e
theorem Paired.mapP{α β:Type}{F G:α->β->Prop}:∀{l₁:List α}{l₂:List β},Paired F l₁ l₂->(∀a b,F a b->G a b)->Paired G l₁ l₂:=by
 intro l₁ l₂ h f
 induction h with
 |nil=>exact .nil
 |cons r t ih=>exact .cons (f _ _ r) ih
theorem eE.stay(x:eE P w H h a o)(k:∀b u,(b=a\/H b=!(.own a))->h.get? b=!u->h'.get? b=!u)
  (ho:∀b,H b=!(.own a)->H' b=!(.own a)) (ht:∀b xs,H b=!(.tup xs)->H' b=!(.tup xs)):eE P w H' h' a o:=by
 induction o with
 |lst xs=>obtain⟨z,its,n,r,e⟩:=x;exact#[z,its,n,r,k _ _ (.inl rfl) e]
 |tup xs=>obtain⟨z,its,r,ob,e,c⟩:=x;exact#[z,its,r,ob,k _ _ (.inl rfl) e,c]
 |dK mQ=>obtain⟨z,y,vs,r,ob,es,ep,e,c⟩:=x;exact#[z,y,vs,r,ob,es,ep,k _ _ (.inl rfl) e,c]
 |dT mQ=>obtain⟨z,y,xs,r,ob,es,ep,e,c⟩:=x;exact#[z,y,xs,Paired.mapP r λp q z=>#[z.1,ht _ _ z.2.1,z.2.2],ob,es,ep,k _ _ (.inl rfl) e,c]
 |set φ=>obtain⟨ob,e,c⟩:=x;exact#[ob,k _ _ (.inl rfl) e,c]
 |ins C dx fs=>obtain⟨d,z,ne,e,mA,⟨od,es,ep,e2,c⟩,r⟩:=x;exact#[ho _ d,z,ne,k _ _ (.inl rfl) e,mA,#[od,es,ep,k _ _ (.inr d) e2,c],r]
 |own y=>obtain⟨ob,e⟩:=x;exact#[ob,k _ _ (.inl rfl) e]
 |xd fs=>obtain⟨mA,⟨od,es,ep,e,c⟩,r⟩:=x;exact#[mA,#[od,es,ep,k _ _ (.inl rfl) e,c],r]
 |rng lo hi=>obtain⟨t,u,v,e⟩:=x;exact#[t,u,v,k _ _ (.inl rfl) e]
 |DS ob u ih=>obtain⟨e,q⟩:=x;exact#[k _ _ (.inl rfl) e,ih q]
 |Ht ps=>have e:=x;exact k a _ (.inl rfl) e
 |met f y=>have e:=x;exact k a _ (.inl rfl) e
 |ext φ=>obtain⟨p,⟨o,e⟩,st⟩:=x;exact#[st _ _ p λo q=>k _ _ (.inl rfl) q,#[o,k _ _ (.inl rfl) e],st]
theorem oG.lt(x:oG P w H h)(e:H a=!o):a<h.objs.size:=(x a o e).lt
theorem oG.fresh(x:oG P w H h)(e:h.objs.size<=a):H a=none:=by
 cases q:H a with
 |none=>rfl
 |some u=>exact absurd (hU (x.lt q) e) (nS _)
theorem oG.kept(x:oG P w H h)(k:∀b u,h.get? b=!u->h'.get? b=!u):oG P w H h':=λa o e=>
 (x a o e).stay (λb u _ q=>k b u q) (λ_ q=>q) λ_ _ q=>q
theorem oG.laid(x:oG P w H h)(k:∀b u,h.get? b=!u->h'.get? b=!u)(hp:h.objs.size<=a)(new:eE P w (upd H a o) h' a o):oG P w (upd H a o) h':=λb u e=>by
 have hn:=x.fresh hp;by_cases hb:b=a
 . subst hb;rw[aE]at e;cases e;exact new
 . rw[aC hb]at e;exact (x b u e).stay (λc v _ q=>k c v q) (λc q=>by rw[aC (aL q hn)];exact q) λc xs q=>by rw[aC (aL q hn)];exact q
end
def Rd(H:Hp)(a:Addr)(u:HO):Prop:=H a=!u\/∃o,H a=!(.DS o u)
theorem Rd.ok{P:Program}{w:World}{H:Hp}{h:Heap}{a:Addr}{u:HO}(r:Rd H a u)(x:oG P w H h):eE P w H h a u:=by
 rcases r with r |⟨o,r⟩
 . exact x a u r
 . obtain⟨_,q⟩:=x a _ r;exact q
noncomputable def Mut:Option HO->Prop
 |!(.lst _)=>True
 |!(.dK _)=>True
 |!(.dT _)=>True
 |!(.set _)=>True
 |!(.ins _ _ _)=>True
 |!(.ext _)=>True
 |_=>False
section
variable{P:Program}{w:World}{H:Hp}{h h':Heap}{x e:Addr}{o':HO}
theorem oG.write(ok:oG P w H h)(mu:Mut (H x))(he:e=x\/H e=!(.own x))(k:∀b u,b≠e->h.get? b=!u->h'.get? b=!u)(Y9:∃u,h'.get? e=!u)
  (new:eE P w (upd H x o') h' x o'):oG P w (upd H x o') h':=λb u q=>by
 have Zx:∀c y,H c=!(.own y)->c≠x:=λc y r z=>by subst z;rw[r]at mu;exact mu
 have ntup:∀c xs,H c=!(.tup xs)->c≠x:=λc xs r z=>by subst z;rw[r]at mu;exact mu
 by_cases hb:b=x
 . subst hb;rw[aE]at q;cases q;exact new
 .
  rw[aC hb]at q;by_cases Um:b=e
  .
   have q':H b=!(.own x):=by
    rcases he with z |z
    . exact absurd (Um.trans z) hb
    . rw[Um];exact z
   rw[q]at q';cases q';obtain⟨v,hv⟩:=Y9;exact#[v,by rw[Um];exact hv]
  .
   refine (ok b u q).stay (λc v hc r=>k c v ?_ r) (λc r=>by rw[aC (Zx c b r)];exact r) λc xs r=>by rw[aC (ntup c xs r)];exact r
   rcases hc with rfl |hc
   . exact Um
   .
    rintro rfl;rcases he with z |z
    . exact Zx c b hc z
    . rw[hc]at z;cases z;exact hb rfl
end
structure Un(fs ex:List Addr)(H H':Hp)(h h':Heap):Prop where
 keep:∀b o,h.get? b=!o->H b=none->b∉fs->b∉ex->h'.get? b=!o
 slot:∀b o,h.get? b=!o->H b=none->b∈fs->b∉ex->∃sl,h'.get? b=some { o with slots:=sl}
 free:∀b o,h.get? b=!o->H b=none->b∉ex->H' b=none
 there:∀b o,h.get? b=!o->b∉ex->∃o',h'.get? b=!o'
 tups:∀b xs,H b=!(.tup xs)->H' b=!(.tup xs)
 uw:∀b o u,H b=!(.DS o u)->H' b=!(.DS o u)
 ux:∀b ps,H b=!(.Ht ps)->∃more,H' b=!(.Ht (ps++more))
section
variable{fs fs' ex ex':List Addr}{H H1 H2:Hp}{h h1 h2 h':Heap}{a x e:Addr}{o:HO}
theorem Un.any(u:Un fs ex H H1 h h1){b:Addr}{ob:Obj}(q:h.get? b=!ob)(n:H b=none)(hx:b∉ex):∃sl,h1.get? b=some { ob with slots:=sl}:=by
 by_cases hb:b∈fs
 . exact u.slot b ob q n hb hx
 . exact#[ob.slots,u.keep b ob q n hb hx]
theorem Un.kept(k:∀b u,h.get? b=!u->h'.get? b=!u):Un fs ex H H h h':=
 #[λb ob q _ _ _=>k b ob q,λb ob q _ _ _=>#[ob.slots,k b ob q],λ_ _ _ n _=>n,λb ob q _=>#[ob,k b ob q],λ_ _ q=>q,λ_ _ _ q=>q,λ_ ps q=>#[([].toArray),by rw[q];simp]]
theorem Un.refl:Un fs ex H H h h:=Un.kept λ_ _ q=>q
theorem Un.laid(k:∀b u,h.get? b=!u->h'.get? b=!u)(hp:h.objs.size<=a)(hn:H a=none):Un fs ex H (upd H a o) h h' where
 keep:=λb u q _ _ _=>k b u q
 slot:=λb u q _ _ _=>#[u.slots,k b u q]
 free:=λb u q n _=>by rw[aC (kA (hU (fN q) hp))];exact n
 there:=λb u q _=>#[u,k b u q]
 tups:=λb xs q=>by rw[aC (aL q hn)];exact q
 uw:=λb u xs q=>by rw[aC (aL q hn)];exact q
 ux:=λb ps q=>#[([].toArray),by rw[aC (aL q hn),q];simp]
theorem Un.write(mu:Mut (H x))(he:e=x\/H e=!(.own x))(k:∀b u,b≠e->h.get? b=!u->h'.get? b=!u)(Y9:∃u,h'.get? e=!u):Un fs ex H (upd H x o) h h':=by
 have hx:∀b,H b=none->b≠x:=λb n z=>by subst z;rw[n]at mu;exact mu
 have hb:∀b,H b=none->b≠e:=λb n z=>by
  subst z;rcases he with r |r
  . exact hx b n r
  . rw[n]at r;cases r
 have hm:∀b u,H b=!u->¬ Mut (!u)->b≠x:=λb u q nm z=>by subst z;rw[q]at mu;exact nm mu
 refine#[λb u q n _ _=>k b u (hb b n) q,λb u q n _ _=>#[u.slots,k b u (hb b n) q],λb u q n _=>by rw[aC (hx b n)];exact n,λb u q _=>?_,
  λb xs q=>by rw[aC (hm b _ q λz=>z)];exact q,λb u xs q=>by rw[aC (hm b _ q λz=>z)];exact q,λb ps q=>#[([].toArray),by rw[aC (hm b _ q λz=>z),q];simp]]
 by_cases Um:b=e
 . subst Um;exact Y9
 . exact#[u,k b u Um q]
end
noncomputable def trk(h:Heap)(H:Hp):List Addr:=(List.range h.objs.size).filter λa=>(H a).isSome
def uy(h:Heap)(H:Hp):Heap:=PySem.W.hideAll h (trk h H)
theorem DT(h:Heap)(H:Hp):(uy h H).objs.size=h.objs.size:=PySem.W.hideAll_size _ _
theorem HF(e:h.get? b=!o)(n:H b=none):(uy h H).get? b=!o:=
 PySem.W.hideAll_get _ e λhm=>by
  have q:=(lL.mp hm).2;rw[n]at q;simp at q
theorem N2(e:(uy h H).get? b=!o):h.get? b=!o/\H b=none:=by
 have e':=PySem.W.of_hideAll (trk h H) e;refine#[e',?_];cases q:H b with
 |none=>rfl
 |some x=>
  have hm:b∈trk h H:=lL.mpr #[lS.mpr (fN e'),by simp[q]]
  have z:(uy h H).get? b=none:=PySem.W.hideAll_none (trk h H) hm;rw[z]at e;cases e
noncomputable def N3(g h:Heap)(L:Addr): ~~~1:=(List.range h.objs.size).filterMap λa=>if a=L\/(g.get? a).isSome=true then none else (h.get? a).map λo=>(a,o)
def aD(g h:Heap)(L d:Addr): ~~~1:=(N3 g h L).filter λp=>decide (p.1≠d)
structure Mod(K:Frag)(mg:Str->Option Value)(base:Heap):Prop where
 kin:K.In base
 glob:base.Ns mainGlobals mg
 blt:∃mb,base.Ns builtinsNs mb/\∀x:Str,x≠ "__name__" ->mb x=bootBuiltins x
 nolimit:base.NoLimit
structure Cx where
 prog:Program
 w:World
 K:Frag
 mg:Str->Option Value
 base:Heap
 A:Around
 N:List Str
 s₀:Shared
 H₀:Hp
 env:Env
 outer:List Env
 stack:List Env
 ex:List Addr
 fn:Str->Bool
 calm:Bool
 pn:List (Addr×Obj)
 xe:Value->Shared->Prop
noncomputable def frs(l:List Env):List Addr:=l.filterMap (·.frame)
abbrev Cx.fs(X:Cx):List Addr:=frs X.outer
def oH(sc:Scope)(x:Str):Prop:=sc.names.lookup x=some .local\/sc.names.lookup x=some .cell\/sc.names.lookup x=some .free
def Loc(sc:Scope)(x:Str):Prop:=sc.names.lookup x=some .local\/sc.names.lookup x=some .cell
def Look(env:Env)(h:Heap)(m:Str->Option Value)(x:Str)(u:Value):Prop:=
 (env.kindOf x=some .local/\m x=!u)\/((env.kindOf x=some .cell\/env.kindOf x=some .free)/\∃c,env.cells.lookup x=!c/\h.IsCell c (!u))
structure Cx.Ok(X:Cx):Prop where
 mod:Mod X.K X.mg X.base
 kind:X.env.scope.kind=.function
 glob:X.env.globals=mainGlobals
 blt:X.env.builtins=builtinsNs
 above:X.s₀⁻¹<=X.env.locals
 inj:∀x y c,X.env.cells.lookup x=!c->X.env.cells.lookup y=!c->x=y
 has:∀x,(X.env.kindOf x=some .cell\/X.env.kindOf x=some .free)->∃c,X.env.cells.lookup x=!c
 Za:∀x c,X.fn x=true->X.env.cells.lookup x=!c->X.s₀⁻¹<=c
 hd:X.calm=true->X.A.handled=none
 frames:X.A.frames=!X.stack
 stk:X.stack=X.outer\/(X.stack=X.env::X.outer/\X.env.frame=!X.env.locals)
 Zy:∀b∈X.ex,b≠X.env.locals/\∀x c,X.env.cells.lookup x=!c->c≠b
 bs:∀b o,X.base.get? b=!o->X.s₀.heap.get? b=!o/\X.H₀ b=none
 N4:X.base.objs.size<=X.s₀⁻¹
 yW:∀b o,X.base.get? b=!o->b∉X.ex
 DW:∀b∈X.ex,b∉X.fs
 nI:X.s₀.heap.FunFrames X.base X.outer
 Uo:∀b∈X.fs,X.H₀ b=none
structure Inv(X:Cx)(ah: ~~~1)(Y:List (Option V))(H:Hp)(s:Shared):Prop where
 ok:X.Ok
 os:s.os=X.s₀.os
 bare:AllBare s.gens
 base:Un X.fs X.ex X.H₀ H X.s₀.heap s.heap
 loc:∃m,s.heap.Ns X.env.locals m/\∀(i:Nat) (x:Str) (v:V),X.N[i]?=!x->Y[i]?=!(!v)->oH X.env.scope x->∃u,RelV v u/\Look X.env s.heap m x u
 cell:∀x c,X.env.cells.lookup x=!c->∃v,s.heap.IsCell c v
 free:H X.env.locals=none
 jF:∀x c,X.env.cells.lookup x=!c->H c=none
 pin:∀p∈X.pn++ah,s.heap.get? p.1=!p.2/\H p.1=none/\p.1≠X.env.locals/\p.1∉X.fs/\∀v,p.2.data≠.cell v
 hok:oG X.prog X.w H s.heap
 len:Y.length=X.N.length
section
variable{X:Cx}{ah: ~~~1}{Y:List (Option V)}{H H':Hp}{s:Shared}{h':Heap}
theorem Cx.Ok.nofr(ok:X.Ok)(e:X.base.get? b=!o):b∉X.fs:=λhb=>by
 have:=(ok.nI.mem hb).1;rw[e]at this;cases this
theorem Inv.bs(I: ~~~7):∀b o,X.base.get? b=!o->s.heap.get? b=!o/\H b=none:=λb o e=>
 #[I.base.keep b o (I.ok.bs b o e).1 (I.ok.bs b o e).2 (I.ok.nofr e) (I.ok.yW b o e),I.base.free b o (I.ok.bs b o e).1 (I.ok.bs b o e).2 (I.ok.yW b o e)]
theorem Inv.bk(I: ~~~7):∀b o,X.base.get? b=!o->s.heap.get? b=!o:=λb o e=>(I.bs b o e).1
theorem Inv.mod(I: ~~~7):Mod X.K X.mg X.base:=I.ok.mod
theorem Inv.yS(I: ~~~7):X.K.In s.heap:=I.ok.mod.kin.keeps I.bk
theorem Inv.lt(I: ~~~7):X.env.locals<s⁻¹:=let #[_,hn,_]:=I.loc;hn.lt
theorem Inv.sz(I: ~~~7):X.s₀⁻¹<=s⁻¹:=l4 I.ok.above (CL I.lt)
theorem Inv.nofs(I: ~~~7)(h:s⁻¹<=a):a∉X.fs:=λhb=>by
 obtain⟨_,o,ho,_⟩:=I.ok.nI.mem hb;exact absurd (hU (fN ho) (l4 I.sz h)) (nS _)
theorem Inv.Up(I: ~~~7):∀x c,X.env.cells.lookup x=!c->c≠X.env.locals:=λx c e z=>by
 obtain⟨v,o,ho,hd⟩:=I.cell x c e;obtain⟨m,⟨o',es,ep,ho',hd',_⟩,_⟩:=I.loc;rw[z,ho']at ho;cases ho;rw[hd']at hd;cases hd
theorem Inv.nI(I: ~~~7):s.heap.FunFrames X.base X.outer:=by
 have all:∀(l:List Env),(∀b∈frs l,b∈X.fs)->X.s₀.heap.FunFrames X.base l->s.heap.FunFrames X.base l:=by
  intro l
  induction l with
  |nil=>intro _ _;trivial
  |cons env r ih=>
   intro hs hl;obtain⟨hk,⟨L,o,hf,hn,ho,hd⟩,hr⟩:=hl;have hL:=hs L (by unfold frs;rw[vS,hf];exact b0)
   obtain⟨sl,e⟩:=I.base.slot L o ho (I.ok.Uo L hL) hL λz=>I.ok.DW L z hL
   exact#[hk,#[L,_,hf,hn,e,hd],ih (λb hb=>hs b (by unfold frs;rw[vS,hf];exact bP _ hb)) hr]
 exact all X.outer (λ_ hb=>hb) I.ok.nI
theorem Inv.stack(I: ~~~7):s.heap.FunFrames X.base X.stack:=by
 rcases I.ok.stk with e |⟨e,hf⟩
 . rw[e];exact I.nI
 .
  rw[e];obtain⟨m,hn,_⟩:=I.loc;refine .cons (by rw[I.ok.kind];decide) hf hn ?_ I.nI
  exact Heap.get?_none_of_le (l4 I.ok.N4 I.ok.above)
theorem Inv.yX(I: ~~~7):∀b∈frs X.stack,b∈X.env.locals::X.fs:=λb hb=>by
 rcases I.ok.stk with e |⟨e,hf⟩
 . rw[e]at hb;exact bP _ hb
 . rw[e]at hb;unfold frs at hb;rw[vS,hf]at hb;exact hb
theorem Inv.Bj(I: ~~~7):∀b∈frs X.stack,H b=none:=λb hb=>by
 rcases eJ.mp (I.yX b hb)with e |hb
 . rw[e];exact I.free
 . obtain⟨_,o,ho,_⟩:=I.ok.nI.mem hb;exact I.base.free b o ho (I.ok.Uo b hb) λz=>I.ok.DW b z hb
theorem Inv.step{g':Array GenState}{t':Nat}{d':Drawn}{ch:List Addr}(I: ~~~7)
  (hch:∀b∈ch,(b∈X.ex\/X.s₀⁻¹<=b)/\b≠X.env.locals/\(∀x c,X.env.cells.lookup x=!c->c≠b)/\∀p∈X.pn++ah,p.1≠b)
  (keep:∀b o,b≠X.env.locals->b∉X.fs->b∉ch->s.heap.get? b=!o->H b=none->h'.get? b=!o)
  (slot:∀b o,b≠X.env.locals->b∈X.fs->b∉ch->s.heap.get? b=!o->H b=none->∃sl,h'.get? b=some { o with slots:=sl}) (free:∀b o,b∉ch->s.heap.get? b=!o->H b=none->H' b=none)
  (there:∀b o,b∉ch->s.heap.get? b=!o->∃o',h'.get? b=!o')
  (tups:∀b xs,H b=!(.tup xs)->H' b=!(.tup xs)) (uw:∀b o u,H b=!(.DS o u)->H' b=!(.DS o u)) (ux:∀b ps,H b=!(.Ht ps)->∃more,H' b=!(.Ht (ps++more)))
  (ns:∀m,s.heap.Ns X.env.locals m->h'.Ns X.env.locals m) (hok:oG X.prog X.w H' h') (hg:AllBare g') :
  Inv X ah Y H' { s with heap:=h',gens:=g',drawn:=d',toks:=t'}:=by
 have neL:∀b o,X.s₀.heap.get? b=!o->b≠X.env.locals:=λb o e=>kA (hU (fN e) I.ok.above)
 have neC:∀b o,X.s₀.heap.get? b=!o->b∉X.ex->b∉ch:=λb o e hx hb=>by
  rcases (hch b hb).1 with z |z
  . exact hx z
  . exact absurd (hU (fN e) z) (nS _)
 have cellK:∀x c,X.env.cells.lookup x=!c->∀v,s.heap.IsCell c v->h'.IsCell c v:=by
  rintro x c e v ⟨o,ho,hd⟩;have Zz:c∉ch:=λz=>(hch c z).2.2.1 x c e rfl
  by_cases hc:c∈X.fs
  . obtain⟨sl,q⟩:=slot c o (I.Up x c e) hc Zz ho (I.jF x c e);exact#[_,q,hd]
  . exact#[o,keep c o (I.Up x c e) hc Zz ho (I.jF x c e),hd]
 refine#[I.ok,I.os,hg,#[λb o e n hb hx=>?_,λb o e n hb hx=>?_,λb o e n hx=>?_,λb o e hx=>?_,λb xs e=>tups b xs (I.base.tups b xs e),λb o xs e=>uw b o xs (I.base.uw b o xs e),λb ps e=>?_],?_,λx c e=>?_,?_,λx c e=>?_,λp hp=>?_,hok,I.len]
 . exact keep b o (neL b o e) hb (neC b o e hx) (I.base.keep b o e n hb hx) (I.base.free b o e n hx)
 . obtain⟨sl,e1⟩:=I.base.slot b o e n hb hx;obtain⟨sl',e2⟩:=slot b _ (neL b o e) hb (neC b o e hx) e1 (I.base.free b o e n hx);exact#[sl',e2]
 . obtain⟨o',e1⟩:=I.base.there b o e hx;exact free b o' (neC b o e hx) e1 (I.base.free b o e n hx)
 . obtain⟨o',e1⟩:=I.base.there b o e hx;exact there b o' (neC b o e hx) e1
 . obtain⟨m1,e1⟩:=I.base.ux b ps e;obtain⟨m2,e2⟩:=ux b _ e1;exact#[m1++m2,by rw[e2,Array.append_assoc]]
 .
  obtain⟨m,hn,hl⟩:=I.loc;refine#[m,ns m hn,λi x v e1 e2 e3=>?_]
  obtain⟨u,r,l⟩:=hl i x v e1 e2 e3;refine#[u,r,?_];rcases l with l |⟨k,c,e,z⟩
  . exact .inl l
  . exact .inr #[k,c,e,cellK x c e _ z]
 . obtain⟨v,z⟩:=I.cell x c e;exact#[v,cellK x c e v z]
 . obtain⟨m,⟨o,_,_,ho,_⟩,_⟩:=I.loc;exact free _ o (λz=>(hch _ z).2.1 rfl) ho I.free
 . obtain⟨v,o,ho,hd⟩:=I.cell x c e;exact free c o (λz=>(hch c z).2.2.1 x c e rfl) ho (I.jF x c e)
 .
  obtain⟨e,n,ne,nf,d⟩:=I.pin p hp;have Zz:p.1∉ch:=λz=>(hch p.1 z).2.2.2 p hp rfl
  exact#[keep p.1 p.2 ne nf Zz e n,free p.1 p.2 Zz e n,ne,nf,d]
theorem Inv.un{t':Nat}(I: ~~~7)(u:Un X.fs [] H H' s.heap h')(hok:oG X.prog X.w H' h'):Inv X ah Y H' { s with heap:=h',toks:=t'}:=by
 obtain⟨m,⟨o,es,ep,ho,r⟩,_⟩:=id I.loc;obtain⟨sl,hL⟩:=u.any ho I.free ⋯;exact I.step (ch:=[]) (λ_ z=>nomatch z) (λb o _ hb _ e n=>u.keep b o e n hb ⋯) (λb o _ hb _ e n=>u.slot b o e n hb ⋯) (λb o _ e n=>u.free b o e n ⋯) (λb o _ e=>u.there b o e ⋯) u.tups u.uw u.ux (λm' hm=>by
  obtain⟨o',es',vU,ho',r'⟩:=hm;rw[ho]at ho';cases ho';exact#[_,es',vU,hL,r']) hok I.bare
theorem Inv.call{g':Array GenState}{t':Nat}{d':Drawn}{ch:List Addr}(I: ~~~7)(u:Un (frs X.stack) ch H H' s.heap h')(hok:oG X.prog X.w H' h')(hg:AllBare g')
  (hch:∀b∈ch,(b∈X.ex\/X.s₀⁻¹<=b)/\b≠X.env.locals/\(∀x c,X.env.cells.lookup x=!c->c≠b)/\∀p∈X.pn++ah,p.1≠b) :
  Inv X ah Y H' { s with heap:=h',gens:=g',drawn:=d',toks:=t'}:=by
 obtain⟨m,⟨o,es,ep,ho,r⟩,_⟩:=id I.loc;obtain⟨sl,hL⟩:=u.any ho I.free λz=>(hch _ z).2.1 rfl
 exact I.step hch (λb o hL hb hc e n=>u.keep b o e n (λz=>(eJ.mp (I.yX b z)).elim hL hb) hc) (λb o _ _ hc e n=>u.any e n hc) (λb o hc e n=>u.free b o e n hc) (λb o hc e=>u.there b o e hc) u.tups u.uw u.ux (λm' hm=>by
  obtain⟨o',es',vU,ho',r'⟩:=hm;rw[ho]at ho';cases ho';exact#[_,es',vU,hL,r']) hok hg
theorem Inv.turned{t':Nat}{it:Addr}(I: ~~~7)(k:∀b o,b≠it->s.heap.get? b=!o->h'.get? b=!o)(hn:H it=none)(hL:it≠X.env.locals)
  (h1:it∈X.ex\/X.s₀⁻¹<=it) (h2:∀x c,X.env.cells.lookup x=!c->c≠it) (h3:∀p∈X.pn++ah,p.1≠it):Inv X ah Y H { s with heap:=h',toks:=t'}:=by
 have nit:∀b u,H b=!u->b≠it:=λb u e z=>by rw[z,hn]at e;cases e
 refine I.step (ch:=[it]) (λb hb=>?_) (λb o _ _ hc e _=>k b o (λz=>hc (by simp[z])) e) (λb o _ _ hc e _=>#[o.slots,k b o (λz=>hc (by simp[z])) e]) (λ_ _ _ _ n=>n)
  (λb o hc e=>#[o,k b o (λz=>hc (by simp[z])) e]) (λ_ _ e=>e) (λ_ _ _ e=>e) (λb ps e=>#[([].toArray),by rw[e];simp]) (λm hm=>?_) (λb u e=>?_) I.bare
 .
  have e:b=it:=by simpa using hb
  subst e;exact#[h1,hL,h2,h3]
 . obtain⟨o,es,ep,ho,r⟩:=hm;exact#[o,es,ep,k _ o (wP hL) ho,r]
 .
  refine (I.hok b u e).stay (λc v hc q=>k c v ?_ q) (λ_ q=>q) λ_ _ q=>q
  rcases hc with z |z
  . rw[z];exact nit b u e
  . exact nit c _ z
theorem Inv.tok(I: ~~~7)(t:Nat):Inv X ah Y H { s with toks:=t}:=I.un Un.refl I.hok
theorem Inv.kept{t':Nat}(I: ~~~7)(k:∀b u,s.heap.get? b=!u->h'.get? b=!u):Inv X ah Y H { s with heap:=h',toks:=t'}:=I.un (Un.kept k) (I.hok.kept k)
theorem Inv.laid{a:Addr}{o:HO}{t':Nat}(I: ~~~7)(k:∀b u,s.heap.get? b=!u->h'.get? b=!u)(hp:s⁻¹<=a)(new:eE X.prog X.w (upd H a o) h' a o) :
  Inv X ah Y (upd H a o) { s with heap:=h',toks:=t'}:=I.un (Un.laid k hp (I.hok.fresh hp)) (I.hok.laid k hp new)
theorem Inv.write(I: ~~~7)(mu:Mut (H x))(he:e=x\/H e=!(.own x))(k:∀b u,b≠e->s.heap.get? b=!u->h'.get? b=!u)(Y9:∃u,h'.get? e=!u)
  (new:eE X.prog X.w (upd H x o) h' x o):Inv X ah Y (upd H x o) { s with heap:=h',toks:=t'}:=I.un (Un.write mu he k Y9) (I.hok.write mu he k Y9 new)
theorem Inv.Bm(I: ~~~7)(h:∀p∈ZC,s.heap.get? p.1=!p.2/\H p.1=none/\p.1≠X.env.locals/\p.1∉X.fs/\∀v,p.2.data≠.cell v):Inv X ZC Y H s:=
 #[I.ok,I.os,I.bare,I.base,I.loc,I.cell,I.free,I.jF,λp hp=>(o5.mp hp).elim (λz=>I.pin p (oD _ z)) (h p),I.hok,I.len]
theorem vV{N:List Str}(hN:N.Nodup){i j:Nat}{x:Str}(a:N[i]?=!x)(b:N[j]?=!x):i=j:=by obtain⟨h1,e1⟩:=dS.mp a;obtain⟨h2,e2⟩:=dS.mp b;exact (List.getElem_inj hN).mp (e1.trans e2.symm)
theorem lu{M:Model}{A:Around}{E:Value->Shared->Prop}{i:Nat}{x:Str}{v:V}{u:Value}{Q:Unit->Shared->Prop}(I: ~~~7)(hN:X.N.Nodup)(hi:X.N[i]?=!x)(hx:Loc X.env.scope x)(r:RelV v u)
  (h:∀s',Inv X ah (Y.set i (!v)) H s'->(∃a,Heap.SameBut a s.heap s'.heap/\(a=X.env.locals\/X.env.cells.lookup x=!a))->Q () s') (hf:X.fn x=true\/X.env.scope.names.lookup x=some .local:=by first |exact .inl rfl |exact .inr rfl |assumption):wpAny M A (storeName X.env x u) Q E s:=by
 obtain⟨m,hn,hl⟩:=id I.loc;have hcls:(X.env.scope.kind==.class||(X.env.scope.kind==.module&&X.env.locals != X.env.globals))=false:=by rw[I.ok.kind];rfl
 have ZD:i<Y.length:=by rw[I.len];exact (dS.mp hi).1
 have Up:=I.Up;have tracked:∀{a:Addr}{h':Heap},(∃o,s.heap.get? a=!o/\H a=none)->Heap.SameBut a s.heap h'->oG X.prog X.w H h':=λ{a h'} ha hs b ob e=>by
  obtain⟨_,_,hfree⟩:=ha;refine (I.hok b ob e).stay (λc w' hc q=>(hs.2 c ?_).trans q) (λ_ q=>q) λ_ _ q=>q
  rintro rfl;rcases hc with rfl |hc
  . rw[hfree]at e;cases e
  . rw[hfree]at hc;cases hc
 rcases hx with hk |hk
 .
  refine wpAny_storeName_local hk hn (λh' hn' hs=>?_) hcls
  obtain⟨oL,_,_,hoL,_⟩:=id hn;refine h _ #[I.ok,I.os,I.bare,#[λb o e n hb hx=>?_,λb o e n hb hx=>?_,I.base.free,λb o e hx=>?_,I.base.tups,I.base.uw,I.base.ux],#[_,hn',λj y v' e1 e2 e3=>?_],λy c e=>?_,I.free,I.jF,λp hp=>?_,tracked #[oL,hoL,I.free] hs,by simpa using I.len] #[_,hs,.inl rfl]
  . exact (hs.2 b (kA (hU (fN e) I.ok.above))).trans (I.base.keep b o e n hb hx)
  . obtain⟨sl,e1⟩:=I.base.slot b o e n hb hx;exact#[sl,(hs.2 b (kA (hU (fN e) I.ok.above))).trans e1]
  . obtain⟨o',e1⟩:=I.base.there b o e hx;exact#[o',(hs.2 b (kA (hU (fN e) I.ok.above))).trans e1]
  .
   by_cases hj:j=i
   . subst hj;rw[hi]at e1;cases e1;rw[gL ZD]at e2;cases e2;exact#[u,r,.inl #[hk,by simp]]
   .
    rw[fR (wP hj)]at e2;obtain⟨u',r',q⟩:=hl j y v' e1 e2 e3;refine#[u',r',?_];rcases q with ⟨k,e⟩ |⟨k,c,e,z⟩
    .
     refine .inl #[k,?_];have:y≠x:=λe=>hj (vV hN e1 (e▸hi))
     simp[this,e]
    . exact .inr #[k,c,e,z.sameBut hs (Up y c e)]
  . obtain⟨w',z⟩:=I.cell y c e;exact#[w',z.sameBut hs (Up y c e)]
  . obtain⟨e,n,ne,nf,d⟩:=I.pin p hp;exact#[(hs.2 p.1 ne).trans e,n,ne,nf,d]
 .
  have hfn:X.fn x=true:=by
   rcases hf with z |z
   . exact z
   . rw[z]at hk;cases hk
  obtain⟨c,hc⟩:=I.ok.has x (.inl hk);obtain⟨w',z⟩:=I.cell x c hc;refine wpAny_storeName_cell I.ok.kind hk hc z (λh' hc' hs=>?_)
  obtain⟨oc,hoc,hocd⟩:=id z;refine h { s with heap:=h'} ⟨I.ok,I.os,I.bare,⟨λb o e n hb hx=>?_,λb o e n hb hx=>?_,I.base.free,λb o e hx=>?_,I.base.tups,I.base.uw,I.base.ux⟩,⟨m,hn.sameBut hs (wP (Up x c hc)),λj y v' e1 e2 e3=>?_⟩,λy c' e=>?_,I.free,I.jF,λp hp=>?_,tracked ⟨oc,hoc,I.jF x c hc⟩ hs,by simpa using I.len⟩ ⟨c,hs,.inr hc⟩
  . exact (hs.2 b (kA (hU (fN e) (I.ok.Za x c hfn hc)))).trans (I.base.keep b o e n hb hx)
  . obtain⟨sl,e1⟩:=I.base.slot b o e n hb hx;exact#[sl,(hs.2 b (kA (hU (fN e) (I.ok.Za x c hfn hc)))).trans e1]
  . obtain⟨o',e1⟩:=I.base.there b o e hx;exact#[o',(hs.2 b (kA (hU (fN e) (I.ok.Za x c hfn hc)))).trans e1]
  .
   by_cases hj:j=i
   . subst hj;rw[hi]at e1;cases e1;rw[gL ZD]at e2;cases e2;exact#[u,r,.inr #[.inl hk,c,hc,hc']]
   .
    rw[fR (wP hj)]at e2;obtain⟨u',r',q⟩:=hl j y v' e1 e2 e3;refine#[u',r',?_];rcases q with q |⟨k,c',e,z'⟩
    . exact .inl q
    . refine .inr #[k,c',e,z'.sameBut hs ?_];rintro rfl;exact hj (vV hN e1 (I.ok.inj _ _ _ e hc▸hi))
  .
   by_cases hcc:c'=c
   . subst hcc;exact#[_,hc']
   . obtain⟨w2,z2⟩:=I.cell y c' e;exact#[w2,z2.sameBut hs hcc]
  . obtain⟨e,n,ne,nf,d⟩:=I.pin p hp;refine#[(hs.2 p.1 ?_).trans e,n,ne,nf,d];intro q;rw[q,hoc]at e;have q':=l5 e;exact d w' (by rw[<- q'];exact hocd)
theorem j9{M:Model}{A:Around}{E:Value->Shared->Prop}{i:Nat}{x:Str}{v:V}{u:Value}{Q:Unit->Shared->Prop}(I: ~~~7)(hN:X.N.Nodup)(hi:X.N[i]?=!x)(hx:Loc X.env.scope x)(r:RelV v u)
  (h:∀s',Inv X ah (Y.set i (!v)) H s'->Q () s') (hf:X.fn x=true\/X.env.scope.names.lookup x=some .local:=by first |exact .inl rfl |exact .inr rfl |assumption):wpAny M A (storeName X.env x u) Q E s:=
 lu I hN hi hx r (λs' I' _=>h s' I') hf
theorem Inv.call'(I: ~~~7)(ho:s'.os=s.os)(u:Un (frs X.stack) ch H H' s.heap s'.heap)(hok:oG X.prog X.w H' s'.heap)(hg:AllBare s'.gens)
  (hch:∀b∈ch,(b∈X.ex\/X.s₀⁻¹<=b)/\b≠X.env.locals/\(∀x c,X.env.cells.lookup x=!c->c≠b)/\∀p∈X.pn++ah,p.1≠b):Inv X ah Y H' s':=by
 obtain⟨h',g',d',t',o'⟩:=s';have e:=ho;subst e;exact I.call u hok hg hch
end
abbrev XK:=Value->Option Addr->Hp->Prop
abbrev St:=List (Option V)
abbrev VK:=V->Hp->Prop
abbrev TE:=St->Hp->VK->Prop
abbrev TT:=St->Hp->(Bool->Hp->Prop)->Prop
abbrev TA:=St->Hp->(List V->Hp->Prop)->Prop
structure Ends where
 nx:St->Hp->Prop
 rt:VK
 bk:St->Hp->Prop:=λ_ _=>False
 ct:St->Hp->Prop:=λ_ _=>False
abbrev TS:=Ends->St->Hp->Prop
def EP(X:Cx)(ah: ~~~1)(Y:St)(Q:VK)(u:Value)(s':Shared):Prop:=∃v H',Inv X ah Y H' s'/\RelV v u/\Q v H'
def TP(X:Cx)(ah: ~~~1)(Y:St)(Q:Bool->Hp->Prop)(b:Bool)(s':Shared):Prop:=∃H',Inv X ah Y H' s'/\Q b H'
def AP(X:Cx)(ah: ~~~1)(Y:St)(Q:List V->Hp->Prop)(us:List Value)(s':Shared):Prop:=∃vs H',Inv X ah Y H' s'/\Vals vs us/\Q vs H'
def SP(X:Cx)(ah: ~~~1)(D:Ends)(f:Flow)(s':Shared):Prop:=
 match f with
 |.next=>∃σ' H',Inv X ah σ' H' s'/\D.nx σ' H'
 |.brk=>∃σ' H',Inv X ah σ' H' s'/\D.bk σ' H'
 |.cont=>∃σ' H',Inv X ah σ' H' s'/\D.ct σ' H'
 |.ret u=>∃v σ' H',Inv X ah σ' H' s'/\RelV v u/\D.rt v H'
def PE(X:Cx)(e:Expr)(t:TE):Prop:=
 ∀(ah: ~~~1) (s:Shared) (Y:St) (H:Hp) (Q:VK),Inv X ah Y H s->t Y H Q->wpAny (~~~2) X.A (eval e X.env) (EP X ah Y Q) X.xe s
def PT(X:Cx)(e:Expr)(t:TT):Prop:=
 ∀(ah: ~~~1) (s:Shared) (Y:St) (H:Hp) (Q:Bool->Hp->Prop),Inv X ah Y H s->t Y H Q->wpAny (~~~2) X.A (isTrue e X.env (eval e X.env)) (TP X ah Y Q) X.xe s
def PW(X:Cx)(e:Expr)(t:TT):Prop:=
 ∀(whole:Sem Value) (ah: ~~~1) (s:Shared) (Y:St) (H:Hp) (Q:Bool->Hp->Prop),Inv X ah Y H s->t Y H Q->wpAny (~~~2) X.A (isTrue e X.env whole) (TP X ah Y Q) X.xe s
theorem PW.pt{X:Cx}{e:Expr}{t:TT}(h:PW X e t):PT X e t:=h _
def PA(X:Cx)(es:List Expr)(t:TA):Prop:=
 ∀(pos:Pos) (ah: ~~~1) (s:Shared) (Y:St) (H:Hp) (Q:List V->Hp->Prop),Inv X ah Y H s->t Y H Q->wpAny (~~~2) X.A (spliced (backTo pos (starEach es X.env))) (AP X ah Y Q) X.xe s
def PS(X:Cx)(st:Stmt)(t:TS):Prop:=
 ∀(ah: ~~~1) (s:Shared) (Y:St) (H:Hp) (D:Ends),Inv X ah Y H s->t D Y H->wpAny (~~~2) X.A (exec st X.env) (SP X ah D) X.xe s
def vN(X:Cx)(st:List Stmt)(t:TS):Prop:=
 ∀(ah: ~~~1) (s:Shared) (Y:St) (H:Hp) (D:Ends),Inv X ah Y H s->t D Y H->wpAny (~~~2) X.A (execs st X.env) (SP X ah D) X.xe s
theorem cF{α:Type}{t:Sem α}{Q Q':α->Shared->Prop}{M:Model}{A:Around}{E:Value->Shared->Prop}{s:Shared}(h:wpAny M A t Q E s)(hQ:∀a s,Q a s->Q' a s):wpAny M A t Q' E s:=mI h hQ λ_ _ x=>x
section
variable{X:Cx}
def ZF(i:Nat):TE:=λY H Q=>∃v,Y[i]?=!(!v)/\Q v H
def tC(v:V):TE:=λ_ H Q=>Q v H
theorem d7(hN:X.N[i]?=!x)(hv:oH X.env.scope x)(hd:(x==(~~~3))=false:=by decide)(ie:(x==("__classdict__":Str))=false:=by decide):PE X (.Name x pos) (ZF i):=by
 intro ah s Y H Q I h;obtain⟨v,e,h⟩:=h;obtain⟨m,hn,hl⟩:=I.loc;obtain⟨u,r,l⟩:=hl i x v hN e hv;have fin:EP X ah Y Q u s:=#[v,H,I,r,h];rcases l with ⟨hk,hm⟩ |⟨hk,c,hc,hcell⟩
 . exact wpAny_Name (wpAny_loadName_local I.ok.kind hk hn hm fin) hd
 .
  rcases hk with hk |hk
  . exact wpAny_Name (wpAny_loadName_cell I.ok.kind hk hc hcell fin) hd
  . exact wpAny_Name (wpAny_loadName_free I.ok.kind hk hc hcell fin ie) hd
theorem Uq{i j pos}:PE X (.Constant (.int i) j pos) (tC (.int i)):=λ_ _ _ H _ I h=>wpAny_Constant_int #[.int i,H,I.tok _,#[_,rfl],h]
theorem ZG{b j pos}:PE X (.Constant (.bool b) j pos) (tC (.bl b)):=λ_ _ _ H _ I h=>Constant_bool #[.bl b,H,I,rfl,h]
theorem Ur{j pos}:PE X (.Constant .none j pos) (tC .non):=λ_ _ _ H _ I h=>Constant_none #[.non,H,I,rfl,h]
theorem Us{x j pos}:PE X (.Constant (.str x) j pos) (tC (.str x)):=λ_ _ _ H _ I h=>Calls.Constant_str #[.str x,H,I.tok _,#[_,rfl],h]
def Gl(X:Cx)(x:Str):Prop:=X.env.kindOf x=some .globalImplicit
theorem Bo{E:Value->Shared->Prop}{ah: ~~~1}{s:Shared}{Y:St}{H:Hp}{x:Str}{u:Value}{pos:Pos}{Q:Value->Shared->Prop}(I: ~~~7)(hg:Gl X x)(hm:X.mg x=!u)(h:Q u s)
  (hd:(x==(~~~3))=false:=by decide):wpAny (~~~2) X.A (eval (.Name x pos) X.env) Q E s:=
 Calls.Name_function_global I.ok.kind hg (Calls.loadGlobal_global (by rw[I.ok.glob];exact I.mod.glob.keeps I.bk) hm h) hd
theorem gk{E:Value->Shared->Prop}{ah: ~~~1}{s:Shared}{Y:St}{H:Hp}{x:Str}{u:Value}{pos:Pos}{Q:Value->Shared->Prop}(I: ~~~7)(hg:Gl X x)(hm:X.mg x=none)(hv:bootBuiltins x=!u)(h:Q u s)
  (hn:x≠ "__name__" :=by decide) (hd:(x==(~~~3))=false:=by decide):wpAny (~~~2) X.A (eval (.Name x pos) X.env) Q E s:=by
 obtain⟨mb,h1,h2⟩:=I.mod.blt;exact Calls.Name_function_global I.ok.kind hg (Calls.loadGlobal_builtin (by rw[I.ok.glob];exact I.mod.glob.keeps I.bk) hm (by rw[I.ok.blt];exact h1.keeps I.bk) ((h2 x hn).trans hv) h) hd
theorem N5(hg:Gl X x)(hm:X.mg x=!u)(r:RelV v u)(hd:(x==(~~~3))=false:=by decide):PE X (.Name x pos) (tC v):=
 λ_ _ _ H _ I h=>Bo I hg hm #[v,H,I,r,h] hd
theorem N6(hg:Gl X x)(hm:X.mg x=none)(hv:bootBuiltins x=!u)(r:RelV v u)(hn:x≠ "__name__" :=by decide)(hd:(x==(~~~3))=false:=by decide):PE X (.Name x pos) (tC v):=
 λ_ _ _ H _ I h=>gk I hg hm hv #[v,H,I,r,h] hn hd
variable{a b:Expr}{ta tb:TE}{pos:Pos}
variable{tA tB':TT}{aD:List Expr}
noncomputable def tAnd(t u:TT):TT:=λY H Q=>t Y H λc H1=>if c=true then u Y H1 Q else Q false H1
noncomputable def tOr(t u:TT):TT:=λY H Q=>t Y H λc H1=>if c=true then Q true H1 else u Y H1 Q
def tNot(t:TT):TT:=λY H Q=>t Y H λc H1=>Q ((not c)) H1
theorem pw_and1(ha:PT X a tA):PW X (.BoolOp .And [a] pos) tA:=by
 intro wh ah s Y H Q I h;refine isTrue_and (cF (ha ah s Y H Q I h) λc s1 e=>?_)
 cases c with
 |true=>exact isTrue_and_nil e
 |false=>exact e
theorem pw_or1(ha:PT X a tA):PW X (.BoolOp .Or [a] pos) tA:=by
 intro wh ah s Y H Q I h;refine isTrue_or (cF (ha ah s Y H Q I h) λc s1 e=>?_)
 cases c with
 |false=>exact isTrue_or_nil e
 |true=>exact e
theorem pw_and(ha:PT X a tA)(hb:PW X (.BoolOp .And (b::aD) pos) tB'):PW X (.BoolOp .And (a::b::aD) pos) (tAnd tA tB'):=by
 intro wh ah s Y H Q I h;refine isTrue_and (cF (ha ah s Y H _ I h) ?_);rintro c s1 ⟨H1,I1,q1⟩;cases c with
 |true=>exact hb wh ah s1 Y H1 Q I1 q1
 |false=>exact#[H1,I1,q1]
theorem pw_or(ha:PT X a tA)(hb:PW X (.BoolOp .Or (b::aD) pos) tB'):PW X (.BoolOp .Or (a::b::aD) pos) (tOr tA tB'):=by
 intro wh ah s Y H Q I h;refine isTrue_or (cF (ha ah s Y H _ I h) ?_);rintro c s1 ⟨H1,I1,q1⟩;cases c with
 |true=>exact#[H1,I1,q1]
 |false=>exact hb wh ah s1 Y H1 Q I1 q1
theorem Ut(ha:PT X a tA):PT X (.UnaryOp .Not a pos) (tNot tA):=by intro ah s Y H Q I h;exact isTrue_not (ha ah s Y H (λc H1=>Q ((not c)) H1) I h)
noncomputable def ZJ(ta tb:TE):TE:=λY H Q=>ta Y H λx H1=>∃c,x=.bl c/\if c=true then tb Y H1 Q else Q (.bl false) H1
noncomputable def tOrV(ta tb:TE):TE:=λY H Q=>ta Y H λx H1=>∃c,x=.bl c/\if c=true then Q (.bl true) H1 else tb Y H1 Q
def ZK(ta:TE):TE:=λY H Q=>ta Y H λx H1=>∃c,x=.bl c/\Q (.bl ((not c))) H1
theorem Uu{op}(h:PE X a t):PE X (.BoolOp op [a] pos) t:=λah s Y H Q I hw=>BoolOp_one (h ah s Y H Q I hw)
theorem HJ(ha:PE X a ta)(hb:PE X (.BoolOp .And (b::aD) pos) tb):PE X (.BoolOp .And (a::b::aD) pos) (ZJ ta tb):=by
 intro ah s Y H Q I h;refine BoolOp_and (cF (ha ah s Y H _ I h) ?_);rintro v s1 ⟨x,H1,I1,r1,q1⟩;obtain⟨c,rfl,q1⟩:=q1;cases r1;refine oQ ?_;cases c with
 |true=>exact hb ah s1 Y H1 Q I1 q1
 |false=>exact#[.bl false,H1,I1,rfl,q1]
theorem SQ(ha:PE X a ta)(hb:PE X (.BoolOp .Or (b::aD) pos) tb):PE X (.BoolOp .Or (a::b::aD) pos) (tOrV ta tb):=by
 intro ah s Y H Q I h;refine BoolOp_or (cF (ha ah s Y H _ I h) ?_);rintro v s1 ⟨x,H1,I1,r1,q1⟩;obtain⟨c,rfl,q1⟩:=q1;cases r1;refine oQ ?_;cases c with
 |false=>exact hb ah s1 Y H1 Q I1 q1
 |true=>exact#[.bl true,H1,I1,rfl,q1]
theorem Uv(ha:PE X a ta):PE X (.UnaryOp .Not a pos) (ZK ta):=by intro ah s Y H Q I h;refine UnaryOp_ (cF (ha ah s Y H _ I h) ?_);rintro v s1 ⟨x,H1,I1,r1,q1⟩;obtain⟨c,rfl,q1⟩:=q1;cases r1;exact not_of (oQ #[.bl ((not c)),H1,I1,rfl,q1])
noncomputable def tIf(t:TT)(ta tb:TE):TE:=λY H Q=>t Y H λc H1=>if c=true then ta Y H1 Q else tb Y H1 Q
theorem vW{c:Expr}(hc:PT X c tA)(ha:PE X a ta)(hb:PE X b tb):PE X (.IfExp c a b pos) (tIf tA ta tb):=by
 intro ah s Y H Q I h;refine wpAny_IfExp (cF (hc ah s Y H _ I h) ?_);rintro d s1 ⟨H1,I1,q1⟩;cases d with
 |true=>exact ha ah s1 Y H1 Q I1 q1
 |false=>exact hb ah s1 Y H1 Q I1 q1
end
def cZ(K:Frag)(H:Hp)(a:Addr)(xs:List V):Prop:=
 Rd H a (.lst xs)\/
  ∃(o:Obj) (its:Array Value) (n:Nat),K.lookup a=!o/\o.cls=.type "list" /\o.dict=none/\o.data=.seq its n/\its.size<=sizeLine/\Vals xs its.toList
def iO(K:Frag)(H:Hp)(a:Addr)(xs:List V):Prop:=
 Rd H a (.tup xs)\/
  ∃(o:Obj) (its:Array Value) (n:Nat),K.lookup a=!o/\o.cls=.type "tuple" /\o.data=.seq its n/\its.size<=sizeLine/\Vals xs its.toList
noncomputable def absV:Value->Option V
 |.none=>some .non
 |.bool b=>!(.bl b)
 |.int i _=>!(.int i)
 |.str x _=>!(.str x)
 |.bytes b _=>!(.SN b)
 |.float b _=>!(.flt b)
 |.ref a=>!(.ref a)
 |.type n=>!(.ty n)
 |_=>none
theorem RelV.abs(r:RelV x u):absV u=!x:=by
 cases x with
 |non=>cases r;rfl
 |bl _=>cases r;rfl
 |int _=>obtain⟨t,rfl⟩:=r;rfl
 |str _=>obtain⟨t,rfl⟩:=r;rfl
 |SN _=>obtain⟨t,rfl⟩:=r;rfl
 |flt _=>obtain⟨t,rfl⟩:=r;rfl
 |ref _=>cases r;rfl
 |ty _=>cases r;rfl
theorem RelV.inj{x y:V}{u:Value}(r:RelV x u)(q:RelV y u):x=y:=l5 (r.abs.symm.trans q.abs)
theorem Vals.inj:∀{xs ys:List V}{us:List Value},Vals xs us->Vals ys us->xs=ys:=by
 intro xs ys us h
 induction h generalizing ys with
 |nil=>intro h';cases h';rfl
 |cons r t ih=>intro h';cases h' with |cons r' t'=>rw[r.inj r',ih t']
section
variable{X:Cx}{ah: ~~~1}{Y:St}{H:Hp}{s:Shared}{a:Addr}{xs ys:List V}
theorem cZ.of{K:Frag}(h:H a=!(.lst xs)):cZ K H a xs:=.inl (.inl h)
theorem Inv.list(I: ~~~7)(h:cZ X.K H a xs):∃its:List Value,Vals xs its/\PlainL s.heap a its.toArray/\xs.length<=sizeLine:=by
 rcases h with h |⟨o,its,n,hk,hc,hd,hs,hz,r⟩
 . obtain⟨z,its,n,r,e⟩:=h.ok I.hok;exact#[its,r,#[_,n,e,rfl,rfl,rfl],z]
 .
  refine#[its.toList,r,#[o,n,I.yS a o hk,hc,hd,by simpa using hs],?_]
  have e:=r.length;simp only[i9]at e;lia
theorem Inv.tuple(I: ~~~7)(h:iO X.K H a xs):∃its:List Value,Vals xs its/\IsTup s.heap a its.toArray/\xs.length<=sizeLine:=by
 rcases h with h |⟨o,its,n,hk,hc,hs,hz,r⟩
 . obtain⟨z,its,r,p⟩:=h.ok I.hok;exact#[its,r,p.tup,z]
 .
  refine#[its.toList,r,#[o,I.yS a o hk,hc,n,by simpa using hs],?_]
  have e:=r.length;simp only[i9]at e;lia
theorem Inv.HN(I: ~~~7)(h:cZ X.K H a xs)(h':cZ X.K H a ys):xs=ys:=by
 obtain⟨its,r,⟨o,n,e,_,_,d⟩,_⟩:=I.list h;obtain⟨its',r',⟨o',n',e',_,_,d'⟩,_⟩:=I.list h';rw[e]at e';cases e';rw[d]at d';injection d' with d1 _;have:its=its':=by simpa using congrArg Array.toList d1
 subst this;exact r.inj r'
theorem Inv.su(I: ~~~7)(h:iO X.K H a xs)(h':iO X.K H a ys):xs=ys:=by
 obtain⟨its,r,⟨o,e,_,n,d⟩,_⟩:=I.tuple h;obtain⟨its',r',⟨o',e',_,n',d'⟩,_⟩:=I.tuple h';rw[e]at e';cases e';rw[d]at d';injection d' with d1 _;have:its=its':=by simpa using congrArg Array.toList d1
 subst this;exact r.inj r'
end
abbrev Cx.wish(X:Cx)(E:Value->Shared->Prop):Cx:={ X with xe:=E}
abbrev Cx.Zb(X:Cx):Cx:=X.wish λ_ _=>False
theorem Cx.Ok.wish{X:Cx}(ok:X.Ok)(E:Value->Shared->Prop):(X.wish E).Ok:=
 #[ok.mod,ok.kind,ok.glob,ok.blt,ok.above,ok.inj,ok.has,ok.Za,ok.hd,ok.frames,ok.stk,ok.Zy,ok.bs,ok.N4,ok.yW,ok.DW,ok.nI,ok.Uo]
theorem Cx.Ok.iP{X:Cx}{E:Value->Shared->Prop}(ok:(X.wish E).Ok):X.Ok:=
 #[ok.mod,ok.kind,ok.glob,ok.blt,ok.above,ok.inj,ok.has,ok.Za,ok.hd,ok.frames,ok.stk,ok.Zy,ok.bs,ok.N4,ok.yW,ok.DW,ok.nI,ok.Uo]
section
variable{X:Cx}{ah: ~~~1}{Y:St}{H:Hp}{s:Shared}{E:Value->Shared->Prop}
theorem Inv.wish(I: ~~~7)(E:Value->Shared->Prop):Inv (X.wish E) ah Y H s:=#[I.ok.wish E,I.os,I.bare,I.base,I.loc,I.cell,I.free,I.jF,I.pin,I.hok,I.len]
theorem Inv.iP(I:Inv (X.wish E) ah Y H s):Inv X ah Y H s:=#[I.ok.iP,I.os,I.bare,I.base,I.loc,I.cell,I.free,I.jF,I.pin,I.hok,I.len]
theorem SP.iP(h:SP (X.wish E) ah D f s'):SP X ah D f s':=by
 cases f with
 |next=>obtain⟨σ',H',I,q⟩:=h;exact#[σ',H',I.iP,q]
 |brk=>obtain⟨σ',H',I,q⟩:=h;exact#[σ',H',I.iP,q]
 |cont=>obtain⟨σ',H',I,q⟩:=h;exact#[σ',H',I.iP,q]
 |ret u=>obtain⟨v,σ',H',I,r,q⟩:=h;exact#[v,σ',H',I.iP,r,q]
theorem vN.Zb{st:List Stmt}{t:TS}(h:vN X.Zb st t):vN X st t:=λah s Y H D I hw=>
 mI (h ah s Y H D (I.wish _) hw) (λ_ _ q=>q.iP) λ_ _ z=>False.elim z
end
section
variable{X:Cx}{st:Stmt}{aD:List Stmt}{t u:TS}{e:Expr}{te:TE}{pos:Pos}
def ZL:TS:=λD Y H=>D.nx Y H
def ZM(t u:TS):TS:=λD Y H=>t { D with nx:=u D} Y H
theorem N7:vN X [] ZL:=λ_ _ Y H _ I h=>wpAny_execs_nil #[Y,H,I,h]
theorem gJ(h1:PS X st t)(h2:vN X aD u):vN X (st::aD) (ZM t u):=by
 intro ah s Y H D I h;refine wpAny_execs_cons (cF (h1 ah s Y H { D with nx:=u D} I h) λf s1 q=>?_)
 cases f with
 |next=>obtain⟨σ',H',I',q⟩:=q;exact h2 ah s1 σ' H' D I' q
 |ret v=>exact q
 |brk=>exact q
 |cont=>exact q
theorem N8(h1:PS X st t):vN X [st] t:=by
 intro ah s Y H D I h;refine wpAny_execs_cons (cF (h1 ah s Y H D I h) λf s1 q=>?_)
 cases f with
 |next=>exact wpAny_execs_nil q
 |ret v=>exact q
 |brk=>exact q
 |cont=>exact q
theorem Inv.quiet{ah: ~~~1}{Y:St}{H:Hp}{s:Shared}(I: ~~~7):interactive X.env=false:=by simp[interactive,I.ok.kind]
def ZN(te:TE):TS:=λD Y H=>te Y H λ_ H1=>D.nx Y H1
theorem Bp(he:PE X e te)(hs:swapsWith e none pos.line X.env=pure false:=by rfl):PS X (.Expr e pos) (ZN te):=by intro ah s Y H D I h;exact wpAny_Expr_any (cF (he ah s Y H _ I h) (by rintro v s1 ⟨x,H1,I1,r1,q1⟩;exact#[Y,H1,I1,q1])) I.quiet hs
def tRet(te:TE):TS:=λD Y H=>te Y H D.rt
theorem HQ(he:PE X e te):PS X (.Return (!e) pos) (tRet te):=by intro ah s Y H D I h;exact wpAny_Return_some (cF (he ah s Y H _ I h) (by rintro v s1 ⟨x,H1,I1,r1,q1⟩;exact#[x,Y,H1,I1,r1,q1]))
noncomputable def tIfS(c:TT)(t u:TS):TS:=λD Y H=>c Y H λb H1=>if b=true then t D Y H1 else u D Y H1
theorem SX{c:Expr}{a b:List Stmt}{tc:TT}(hc:PT X c tc)(ha:vN X a t)(hb:vN X b u):PS X (.If c a b pos) (tIfS tc t u):=by
 intro ah s Y H D I h;refine wpAny_If (cF (hc ah s Y H _ I h) ?_);rintro d s1 ⟨H1,I1,q1⟩;cases d with
 |true=>exact ha ah s1 Y H1 D I1 q1
 |false=>exact hb ah s1 Y H1 D I1 q1
def Uw:TS:=λ_ _ _=>False
theorem eU:vN X vM Uw:=λ_ _ _ _ _ _ h=>h.elim
end
abbrev TG:=V->St->Hp->(St->Hp->Prop)->Prop
abbrev Ux:=List V->St->Hp->(St->Hp->Prop)->Prop
def PG(X:Cx)(target:Expr)(t:TG):Prop:=
 ∀(ah: ~~~1) (s:Shared) (Y:St) (H:Hp) (v:V) (u:Value) (Q:St->Hp->Prop),Inv X ah Y H s->RelV v u->t v Y H Q->
  wpAny (~~~2) X.A (assign target X.env u) (λ_ s'=>∃σ' H',Inv X ah σ' H' s'/\Q σ' H') X.xe s
def Zc(X:Cx)(ts:List Expr)(t:Ux):Prop:=
 ∀(ah: ~~~1) (s:Shared) (Y:St) (H:Hp) (vs:List V) (us:List Value) (Q:St->Hp->Prop),Inv X ah Y H s->Vals vs us->t vs Y H Q->
  wpAny (~~~2) X.A (assignInOrder ((assignEach ts X.env).map (·.2)) us) (λ_ s'=>∃σ' H',Inv X ah σ' H' s'/\Q σ' H') X.xe s
abbrev N9:=V->V->V->Hp->(Hp->Prop)->Prop
def ZP(X:Cx)(t:N9):Prop:=
 ∀(ah: ~~~1) (s:Shared) (Y:St) (H:Hp) (o i v:V) (ov iv u:Value) (Q:Hp->Prop),Inv X ah Y H s->RelV o ov->RelV i iv->RelV v u->t o i v H Q->
  wpAny (~~~2) X.A (setItem ov iv u) (λ_ s'=>∃H',Inv X ah Y H' s'/\Q H') X.xe s
section
variable{X:Cx}{pos:Pos}
def vX(i:Nat):TG:=λv Y H Q=>Q (Y.set i (!v)) H
theorem kh(hN:X.N.Nodup)(hi:X.N[i]?=!x)(hx:Loc X.env.scope x)(hf:X.fn x=true\/X.env.scope.names.lookup x=some .local:=by first |exact .inl rfl |exact .inr rfl |assumption):PG X (.Name x pos) (vX i):=by intro ah s Y H v u Q I r h;exact wpAny_assign_Name (j9 I hN hi hx r (λs' I'=>#[_,H,I',h]) hf)
def gNil:Ux:=λvs Y H Q=>vs=[]/\Q Y H
noncomputable def ZQ(t:TG)(u:Ux):Ux:=λvs Y H Q=>∃v r,vs=v::r/\t v Y H λσ' H'=>u r σ' H' Q
theorem Bq:Zc X [] gNil:=by intro ah s Y H vs us Q I r h;obtain⟨e,h⟩:=h;subst e;exact assignInOrder_nil #[Y,H,I,h]
theorem oJ{e:Expr}{es:List Expr}{t:TG}{u:Ux}(h1:PG X e t)(h2:Zc X es u)
  (hs:(assignEach (e::es) X.env).map (·.2)=assign e X.env::(assignEach es X.env).map (·.2):=by rfl):Zc X (e::es) (ZQ t u):=by
 intro ah s Y H vs us Q I r h;obtain⟨v,vr,e1,h⟩:=h;subst e1;cases r with
 |cons r rr=>rw[hs];refine assignInOrder_cons (cF (h1 ah s Y H _ _ _ I r h) ?_);rintro _ s1 ⟨σ1,H1,I1,q1⟩;exact h2 ah s1 σ1 H1 _ _ Q I1 rr q1
def gTup(K:Frag)(n:Nat)(t:Ux):TG:=λv Y H Q=>∃a xs,v=.ref a/\iO K H a xs/\xs.length=n/\t xs Y H Q
theorem HR(hc:X.calm=true)(h:Zc X es t)
  (hn:(assignEach es X.env).length=n:=by rfl) (eZ:(assignEach es X.env).findIdx? (·.1)=none:=by rfl):PG X (.Tuple es k pos) (gTup X.K n t):=by
 intro ah s Y H v u Q I r hw;obtain⟨a,xs,e1,hq,hl,hw⟩:=hw;subst e1;cases r;obtain⟨its,rv,ht,hz⟩:=I.tuple hq;refine assign_Tuple_tuple (I.ok.hd hc) ht (by simp[hn,<- hl,rv.length]) eZ λh' hx=>?_
 have I1:=I.kept (t':=s.toks) λb o e=>hx b o (kA (fN e)) e
 exact h ah _ Y H xs _ Q I1 (by simpa using rv) hw
noncomputable def gSub(to ti:TE)(t:N9):TG:=λv Y H Q=>to Y H λo H1=>ti Y H1 λi H2=>t o i v H2 λH3=>Q Y H3
theorem Uy{o i:Expr}{to ti:TE}{t:N9}(ho:PE X o to)(hi:PE X i ti)(hs:ZP X t)
  (ha:∀v,assign (.Subscript o i pos) X.env v=(do
   let ov <- holding [v] (eval o X.env)
   let iv <- holding [v,ov] (eval i X.env)
   standAt pos
   holding [v,ov,iv] (setItem ov iv v)
   release [v,ov,iv] []):=by intro _;rfl):PG X (.Subscript o i pos) (gSub to ti t):=by
 intro ah s Y H v u Q I r h;refine aS (l7 (cF (ho ah s Y H _ I h) ?_));rintro ov s1 ⟨x,H1,I1,r1,q1⟩;refine aS (l7 (cF (hi ah s1 Y H1 _ I1 q1) ?_));rintro iv s2 ⟨y,H2,I2,r2,q2⟩;refine aS (t5 (aS (l7 (cF (hs ah s2 Y H2 x y v ov iv u _ I2 r1 r2 r q2) ?_))));rintro _ s3 ⟨H3,I3,q3⟩;exact wpAny_release #[Y,H3,I3,q3]
def Oa(te:TE)(g:TG):TS:=λD Y H=>te Y H λx H1=>g x Y H1 D.nx
theorem HS{tg e:Expr}{te:TE}{g:TG}(he:PE X e te)(hg:PG X tg g)(hs:swapsWithSole [tg] e pos.line X.env=pure false:=by rfl)(hw:swappedStores [tg] e X.env=pure none:=by rfl)
  (h1:(assignEach [tg] X.env).map (·.2)=[assign tg X.env]:=by rfl):PS X (.Assign [tg] e pos) (Oa te g):=by
 intro ah s Y H D I h;refine wpAny_Assign_stores (cF (he ah s Y H _ I h) ?_) hs hw;rintro v s1 ⟨x,H1,I1,r1,q1⟩;rw[h1];exact cF (hg ah s1 Y H1 x v _ I1 r1 q1) λ_ s2 q=>q
theorem HW{i:Nat}{x:Str}{e:Expr}{te:TE}{pos':Pos}(hN:X.N.Nodup)(hi:X.N[i]?=!x)(hx:Loc X.env.scope x)(he:PE X e te)(hs:swapsWith e (!(.Name x pos')) pos.line X.env=pure false:=by rfl)(hf:X.fn x=true\/X.env.scope.names.lookup x=some .local:=by first |exact .inl rfl |exact .inr rfl |assumption) :
  PS X (.Assign [.Name x pos'] e pos) (Oa te (vX i)):=by
 intro ah s Y H D I h;refine wpAny_Assign_Name (cF (he ah s Y H _ I h) ?_) hs;rintro v s1 ⟨y,H1,I1,r1,q1⟩;exact j9 I1 hN hi hx r1 (λs2 I2=>#[_,H1,I2,q1]) hf
noncomputable def tPar(i j:Nat)(ta:TA):TS:=λD Y H=>ta Y H λvs H1=>∃v w,vs=[v,w]/\D.nx ((Y.set i (!v)).set j (!w)) H1
theorem Uz{i j:Nat}{x y:Str}{a b:Expr}{ta:TA}{px py pt:Pos}{kt k2 S0}(hc:X.calm=true)(hN:X.N.Nodup)(hi:X.N[i]?=!x)(hj:X.N[j]?=!y)(hij:i≠j)
  (hx:X.env.scope.names.lookup x=some .local) (hy:X.env.scope.names.lookup y=some .local) (ha:PA X [a,b] ta)
  (hw:swappedStores [.Tuple [.Name x px,.Name y py] kt pt] (.Tuple [a,b] k2 S0) X.env=pure (![x,y]))
  (hs:swapsWithSole [.Tuple [.Name x px,.Name y py] kt pt] (.Tuple [a,b] k2 S0) pos.line X.env=pure false:=by rfl) :
  PS X (.Assign [.Tuple [.Name x px,.Name y py] kt pt] (.Tuple [a,b] k2 S0) pos) (tPar i j ta):=by
 intro ah s Y H D I h;rw[exec_Assign_arm];refine aS (t5 ?_);rw[hs];refine aS (dA ?_);rw[eP ⋯];refine aS (Tuple_ (cF (ha _ ah s Y H _ I h) ?_));rintro us s1 ⟨vs,H1,I1,r1,q1⟩;obtain⟨v,w,e1,q1⟩:=q1;subst e1;obtain⟨u1,u2,rfl,rv,rw'⟩:∃u1 u2,us=[u1,u2]/\RelV v u1/\RelV w u2:=by
  cases r1 with
  |cons p q=>
   cases q with
   |cons p' q'=>cases q';exact#[_,_,rfl,p,p']
 refine nE ?_ (by show 2<=sizeLine;decide)
 have I2:Inv X ah Y H1 { s1 with heap:=s1.heap.push { cls:=.type "tuple",data:=.seq [u1,u2].toArray}}:=I1.kept (t':=s1.toks) λb o e=>dC _ e
 rw[hw];refine aS (dA ?_);show wpAny (~~~2) X.A (do rule "assign.swapped-stores";let items <- unpackItems (.ref s1⁻¹) 2 none;assignInOrder [λv=>bindName X.env y v,λv=>bindName X.env x v] items.reverse;pure Flow.next) _ _ _
 refine aS (A5 (aS (unpackItems_tuple (items:=([u1,u2].toArray)) (I.ok.hd hc) (IsTup.new s1.heap _) λh' hx'=>?_)))
 have I3:=I2.kept (h':=h') (t':=s1.toks) λb o e=>hx' b o (kA (fN e)) e
 show wpAny _ _ (assignInOrder [λv=>bindName X.env y v,λv=>bindName X.env x v] [u2,u1] >>= λ_=>pure Flow.next) _ _ _
 refine aS (assignInOrder_cons (wpAny_bindName (j9 I3 hN hj (.inl hy) rw' (λs2 I4=>?_) (.inr hy))))
 refine assignInOrder_cons (wpAny_bindName (j9 I4 hN hi (.inl hx) rv (λs3 I5=>assignInOrder_nil (dA ?_)) (.inr hx)))
 rw[List.set_comm _ _ (wP hij)]at I5;exact#[_,H1,I5,q1]
end
section
variable{X:Cx}{pos:Pos}
noncomputable def UG(c:TT)(tb:TS):TS:=λD Y H=>∃W:Nat->St->Hp->Prop,(∃m,W m Y H)/\∀m Y H,W m Y H->
 c Y H λb H1=>if b=true then ∃N:St->Hp->Prop,(∀σ' H',N σ' H'->∃m',m'<m/\W m' σ' H')/\tb { D with nx:=N,ct:=N,bk:=D.nx} Y H1 else D.nx Y H1
theorem HX{c:Expr}{body:List Stmt}{tc:TT}{tb:TS}(hp:PassesOwn (~~~2) X.A X.env X.xe)(hc:PT X c tc)(hb:vN X body tb):PS X (.While c body [] pos) (UG tc tb):=by
 intro ah s Y H D I h;obtain⟨W,⟨m0,w0⟩,turn⟩:=h;refine wpAny_While (codeAny_whileLoop (λn s'=>∃σ' H',Inv X ah σ' H' s'/\W n σ' H') ?_ m0 #[Y,H,I,w0])
 rintro n s1 ⟨σ1,H1,I1,w1⟩;refine AH hp (cF (hc ah s1 σ1 H1 _ I1 (turn n σ1 H1 w1)) ?_);rintro b s2 ⟨H2,I2,q2⟩;cases b with
 |true=>
  obtain⟨N,hN,q2⟩:=q2;refine AH hp (cF (hb ah s2 σ1 H2 _ I2 q2) λf s3 q3=>?_)
  cases f with
  |next=>obtain⟨σ3,H3,I3,n3⟩:=q3;obtain⟨m',hm,w3⟩:=hN σ3 H3 n3;exact#[m',hm,σ3,H3,I3,w3]
  |cont=>obtain⟨σ3,H3,I3,n3⟩:=q3;obtain⟨m',hm,w3⟩:=hN σ3 H3 n3;exact#[m',hm,σ3,H3,I3,w3]
  |brk=>exact q3
  |ret v=>exact q3
 |false=>exact wpAny_execs_nil #[σ1,H2,I2,q2]
end
structure It where
 go:Nat->Hp->Prop
 Zd:Nat->Hp->V->Hp->Prop
 stop:Nat->Hp->Prop
def lz(X:Cx)(ah: ~~~1)(H:Hp)(b:Addr):Prop:=
 H b=none/\b≠X.env.locals/\b∉X.fs/\(b∈X.ex\/X.s₀⁻¹<=b)/\(∀x c,X.env.cells.lookup x=!c->c≠b)/\∀p∈X.pn++ah,p.1≠b
theorem Inv.DX{X:Cx}{ah: ~~~1}{Y:St}{H H':Hp}{s:Shared}{b:Addr}(I: ~~~7)(hb:s⁻¹<=b)(hn:H' b=none):lz X ah H' b:=by
 refine#[hn,Nat.ne_of_gt (hU I.lt hb),I.nofs hb,.inr (l4 I.sz hb),λx c e z=>?_,λp hp z=>?_]
 . obtain⟨v,q⟩:=I.cell x c e;exact absurd (hU q.lt (by rw[z];exact hb)) (nS _)
 . exact absurd (hU (fN (I.pin p hp).1) (by rw[z];exact hb)) (nS _)
structure Turn(P:Program)(w:World)(K:Frag)(tg:Expr)(qqz:It)(fp:List Addr)(it:Addr)(tn:Nat->Heap->Prop):Prop where
 mem:it∈fp
 obj:∀i h,tn i h->∀b∈fp,∃o,h.get? b=!o/\∀v,o.data≠.cell v
 keep:∀i h h',tn i h->(∀b∈fp,∀o,h.get? b=!o->h'.get? b=!o)->tn i h'
 item:∀(X:Cx),X.prog=P->X.w=w->X.K=K->X.calm=true->∀(i:Nat) (ah: ~~~1) (s:Shared) (Y:St) (H:Hp) (E:Value->Shared->Prop),Inv X ah Y H s->(∀b∈fp,lz X ah H b)->tn i s.heap->qqz.go i H->
  wpAny (model P w) X.A (pyNext (.ref it)) (λr s1=>∃u,r=!u/\
   wpAny (model P w) X.A (letOwnedTupleGo tg (.ref it) u) (λ_ s2=>∃x H',Inv X ah Y H' s2/\RelV x u/\qqz.Zd i H x H'/\tn (i+1) s2.heap/\∀b∈fp,H' b=none) E s1) E s
 done:∀(X:Cx),X.prog=P->X.w=w->X.K=K->X.calm=true->∀(i:Nat) (ah: ~~~1) (s:Shared) (Y:St) (H:Hp) (E:Value->Shared->Prop),Inv X ah Y H s->(∀b∈fp,lz X ah H b)->tn i s.heap->qqz.stop i H->
  wpAny (model P w) X.A (pyNext (.ref it)) (λr s1=>r=none/\Inv X ah Y H s1) E s
 self:∀(A:Around) (i:Nat) (s:Shared) (Q:Value->Shared->Prop) (E:Value->Shared->Prop),tn i s.heap->Q (.ref it) s->wpAny (model P w) A (pyIter (.ref it)) Q E s
abbrev TI:=St->Hp->(It->Hp->Prop)->Prop
def PIE(X:Cx)(ah: ~~~1)(Y:St)(tg:Expr)(R:It->Hp->Prop)(itv:Value)(s2:Shared):Prop:=
 ∃(it:Addr) (fp:List Addr) (tn:Nat->Heap->Prop) (qqz:It) (H':Hp),itv=.ref it/\Inv X ah Y H' s2/\Turn X.prog X.w X.K tg qqz fp it tn/\tn 0 s2.heap/\(∀b∈fp,lz X ah H' b)/\R qqz H'
def PI(X:Cx)(tg iter:Expr)(wi:TI):Prop:=
 ∀(ah: ~~~1) (s:Shared) (Y:St) (H:Hp) (R:It->Hp->Prop),Inv X ah Y H s->wi Y H R->
  wpAny (~~~2) X.A (eval iter X.env) (λv s1=>wpAny (~~~2) X.A (pyIter v) (PIE X ah Y tg R) X.xe s1) X.xe s
theorem HY(ho:s.heap.get? it=!o)(hc:o.cls=.type n)(hd:o.data=.fields vs)
  (hn:["enumerate", "zip", "dict_itemiterator", "dict_reverseitemiterator", "odict_iterator", "itertools.zip_longest", "itertools.pairwise"].contains n=false) (hQ:Q () s):wpAny M A (letOwnedTupleGo tg (.ref it) u) Q E s:=by
 cases tg <;> first
  |exact dA hQ
  | (cases u <;> first
    |exact dA hQ
    | (refine aS (wpAny_load ho ?_)
       rw[hc,hd];show wpAny M A (if (["enumerate", "zip", "dict_itemiterator", "dict_reverseitemiterator", "odict_iterator", "itertools.zip_longest", "itertools.pairwise"].contains n&&vs[0]?==!(rawInt _))=true then _ else _) Q E s
       rw[eP (by intro h;rw[hn]at h;symm)]
       exact dA hQ))
def Itl(K:Frag)(a:Addr):It:=
 #[λi H=>∃xs x,cZ K H a xs/\xs[i]?=!x,λi H x H'=>H'=H/\∀xs,cZ K H a xs->xs[i]?=!x,λi H=>∃xs,cZ K H a xs/\xs.length<=i]
def Itt(K:Frag)(a:Addr):It:=
 #[λi H=>∃xs x,iO K H a xs/\xs[i]?=!x,λi H x H'=>H'=H/\∀xs,iO K H a xs->xs[i]?=!x,λi H=>∃xs,iO K H a xs/\xs.length<=i]
noncomputable def UJ(lo:Int)(n:Nat):It:=#[λi _=>i<n,λi H x H'=>H'=H/\x=.int (lo+i),λi _=>n<=i]
theorem DY{P:Program}{w:World}{K:Frag}{tg:Expr}(a it:Addr):Turn P w K tg (Itl K a) [it] it (λi h=>h.IsListIter it a i) where
 mem:=by simp
 obj:=λi h st b hb=>by
  have e:b=it:=by simpa using hb
  subst e;obtain⟨o,e,c,d⟩:=st;exact#[o,e,λv z=>by rw[d]at z;cases z]
 keep:=λi h h' st k=>st.at λo e=>k it ⋯ o e
 item:=by
  intro X hP hw hK hc i ah s Y H E I hf st hg;subst hP hw hK;obtain⟨xs,x,hq,hx⟩:=hg;obtain⟨its,rv,p,hz⟩:=I.list hq;obtain⟨u,hu,ru⟩:=rv.get hx;obtain⟨f0,f1,f2,f3,f4,f5⟩:=hf it ⋯;refine wpAny_pyNext_list_item st p.isList (by simpa using hu) λh' st' sb=>?_
  have I1:=I.turned (t':=s.toks) (λb o hb e=>(sb.2 b hb).trans e) f0 f1 f3 f4 f5
  obtain⟨o,e,c,d⟩:=id st';exact#[u,rfl,HY e c d ⋯ #[x,H,I1,ru,#[rfl,λys hy=>by rw[I.HN hy hq];exact hx],st',λb hb=>(hf b hb).1]]
 done:=by intro X hP hw hK hc i ah s Y H E I hf st hg;subst hP hw hK;obtain⟨xs,hq,hx⟩:=hg;obtain⟨its,rv,p,hz⟩:=I.list hq;obtain⟨f0,f1,f2,f3,f4,f5⟩:=hf it ⋯;have hl:=rv.length;exact wpAny_pyNext_list_end (I.ok.hd hc) st p.isList (by simp;lia) λh' eb=>#[rfl,I.turned (λb o hb e=>eb b o hb e) f0 f1 f3 f4 f5]
 self:=λ_ _ _ _ _ st h=>wpAny_pyIter_listiter st h
theorem yZ{P:Program}{w:World}{K:Frag}{tg:Expr}(a it:Addr):Turn P w K tg (Itt K a) [it] it (λi h=>h.IsTupleIter it a i) where
 mem:=by simp
 obj:=λi h st b hb=>by
  have e:b=it:=by simpa using hb
  subst e;obtain⟨o,e,c,d⟩:=st;exact#[o,e,λv z=>by rw[d]at z;cases z]
 keep:=λi h h' st k=>st.at λo e=>k it ⋯ o e
 item:=by
  intro X hP hw hK hc i ah s Y H E I hf st hg;subst hP hw hK;obtain⟨xs,x,hq,hx⟩:=hg;obtain⟨its,rv,p,hz⟩:=I.tuple hq;obtain⟨u,hu,ru⟩:=rv.get hx;obtain⟨f0,f1,f2,f3,f4,f5⟩:=hf it ⋯;refine wpAny_pyNext_tuple_item st (show s.heap.IsTuple a its.toArray from p) (by simpa using hu) λh' st' sb=>?_
  have I1:=I.turned (t':=s.toks) (λb o hb e=>(sb.2 b hb).trans e) f0 f1 f3 f4 f5
  obtain⟨o,e,c,d⟩:=id st';exact#[u,rfl,HY e c d ⋯ #[x,H,I1,ru,#[rfl,λys hy=>by rw[I.su hy hq];exact hx],st',λb hb=>(hf b hb).1]]
 done:=by intro X hP hw hK hc i ah s Y H E I hf st hg;subst hP hw hK;obtain⟨xs,hq,hx⟩:=hg;obtain⟨its,rv,p,hz⟩:=I.tuple hq;obtain⟨f0,f1,f2,f3,f4,f5⟩:=hf it ⋯;have hl:=rv.length;exact wpAny_pyNext_tuple_end (I.ok.hd hc) st (show s.heap.IsTuple a its.toArray from p) (by simp;lia) λh' eb=>#[rfl,I.turned (λb o hb e=>eb b o hb e) f0 f1 f3 f4 f5]
 self:=λ_ _ _ _ _ st h=>wpAny_pyIter_tupleiter st h
theorem y9{P:Program}{w:World}{K:Frag}{tg:Expr}(it:Addr)(lo:Int)(n:Nat):Turn P w K tg (UJ lo n) [it] it (λi h=>IsRangeIter h it (lo+(i:Nat) * 1) ((n:Int) - (i:Nat)) 1) where
 mem:=by simp
 obj:=λi h st b hb=>by
  have e:b=it:=by simpa using hb
  subst e;exact#[_,st,λv z=>by
   have z':=z;cases z']
 keep:=λi h h' st k=>k it ⋯ _ st
 item:=by
  intro X hP hw hK hc i ah s Y H E I hf st hg;subst hP hw hK;obtain⟨f0,f1,f2,f3,f4,f5⟩:=hf it ⋯;have W:=Walks.range (prog:=X.prog) (w:=X.w) (I.ok.hd hc) it lo 1 n;refine W.item i s _ _ hg st λv h' tk hv st' kk=>?_
  obtain⟨t,rfl⟩:=hv;have I1:Inv X ah Y H { s with heap:=h',toks:=tk}:=I.turned (λb o hb e=>kk b o (by simpa using hb) e) f0 f1 f3 f4 f5
  refine#[_,rfl,HY st' rfl rfl ⋯ #[.int (lo+i),H,I1,#[t,?_],#[rfl,rfl],st',λb hb=>(hf b hb).1]]
  rw[Int.mul_one]
 done:=by intro X hP hw hK hc i ah s Y H E I hf st hg;obtain⟨f0,f1,f2,f3,f4,f5⟩:=hf it ⋯;exact wpAny_pyNext_range_end (I.ok.hd hc) st (by have:n<=i:=hg;lia) λh' eb=>#[rfl,I.turned (λb o hb e=>eb b o hb e) f0 f1 f3 f4 f5]
 self:=λ_ _ _ _ _ st h=>wpAny_pyIter_rangeiter st h
section
variable{X:Cx}{tg:Expr}
def ZR(K:Frag)(tl:TE):TI:=λY H R=>tl Y H λx H1=>∃a,x=.ref a/\(∃xs,cZ K H1 a xs)/\R (Itl K a) H1
def iTup(K:Frag)(tl:TE):TI:=λY H R=>tl Y H λx H1=>∃a,x=.ref a/\(∃xs,iO K H1 a xs)/\R (Itt K a) H1
theorem Br{l:Expr}{tl:TE}(hl:PE X l tl):PI X tg l (ZR X.K tl):=by
 intro ah s Y H R I h;refine cF (hl ah s Y H _ I h) ?_;rintro v s1 ⟨x,H1,I1,r1,q1⟩;obtain⟨a,e,⟨xs,hq⟩,q⟩:=q1;subst e;cases r1;obtain⟨its,rv,p,hz⟩:=I1.list hq;refine AI p.isList ?_;refine#[s1⁻¹,[s1⁻¹],_,_,H1,rfl,I1.kept λb o e=>dC _ e,DY a _,#[_,eQ _ rfl,rfl,rfl],λb hb=>?_,q]
 have e:b=s1⁻¹:=by simpa using hb
 subst e;exact I1.DX (eD _) (I1.hok.fresh (eD _))
theorem Ia{l:Expr}{tl:TE}(hl:PE X l tl):PI X tg l (iTup X.K tl):=by
 intro ah s Y H R I h;refine cF (hl ah s Y H _ I h) ?_;rintro v s1 ⟨x,H1,I1,r1,q1⟩;obtain⟨a,e,⟨xs,hq⟩,q⟩:=q1;subst e;cases r1;obtain⟨its,rv,p,hz⟩:=I1.tuple hq;refine At (show s1.heap.IsTuple a its.toArray from p) ?_
 refine#[s1⁻¹,[s1⁻¹],_,_,H1,rfl,I1.kept λb o e=>dC _ e,yZ a _,#[_,eQ _ rfl,rfl,rfl],λb hb=>?_,q]
 have e:b=s1⁻¹:=by simpa using hb
 subst e;exact I1.DX (eD _) (I1.hok.fresh (eD _))
theorem vY{ah: ~~~1}{Y:St}{H:Hp}{s:Shared}{R:It->Hp->Prop}{E:Value->Shared->Prop}{lo hi:Int}{t u v:Tok}{tk:Nat}(I: ~~~7)(h1 : -(2 ^ 62)<=lo)(h2:lo<2 ^ 62)(h3 : -(2 ^ 62)<=hi)(h4:hi<2 ^ 62)
  (q:R (UJ lo (hi - lo).toNat) H):wpAny (~~~2) X.A (pyIter (.ref s⁻¹)) (PIE X ah Y tg R) E { s with heap:=s.heap.push { cls:=.type "range",data:=.fields ([.int lo t,.int hi u,.int 1 v].toArray)},toks:=tk}:=by
 refine wpAny_pyIter_range (IsRange.new ..) (small_one h1 h2 h3 h4) ?_;have I1:Inv X ah Y H { s with heap:=s.heap.push { cls:=.type "range",data:=.fields ([.int lo t,.int hi u,.int 1 v].toArray)},toks:=tk}:=I.kept λb o e=>dC _ e
 refine#[(s.heap.push { cls:=.type "range",data:=.fields ([.int lo t,.int hi u,.int 1 v].toArray)}).objs.size,[(s.heap.push { cls:=.type "range",data:=.fields ([.int lo t,.int hi u,.int 1 v].toArray)}).objs.size],_,_,H,rfl,
  I1.kept λb o e=>dC _ e,y9 _ lo (hi - lo).toNat,?_,λb hb=>?_,q]
 .
  have e1:lo+((0:Nat):Int) * 1=lo:=by simp
  have e2:(((hi - lo).toNat:Nat):Int) - ((0:Nat):Int)=Builtin.Range.rangeSize lo hi 1:=by rw[rangeSize_one];split <;> lia
  rw[e1,e2];exact eQ _ rfl
 .
  have e:b=(s.heap.push { cls:=.type "range",data:=.fields ([.int lo t,.int hi u,.int 1 v].toArray)}).objs.size:=by simpa using hb
  subst e;exact I1.DX (eD _) (I1.hok.fresh (eD _))
def ZS(ta:TA):TI:=λY H R=>ta Y H λvs H1=>∃j:Int,vs=[.int j]/\-(2 ^ 62)<=j/\j<2 ^ 62/\R (UJ 0 j.toNat) H1
def ZT(ta:TA):TI:=λY H R=>ta Y H λvs H1=>∃i j:Int,vs=[.int i,.int j]/\(-(2 ^ 62)<=i/\i<2 ^ 62/\-(2 ^ 62)<=j/\j<2 ^ 62)/\R (UJ i (j - i).toNat) H1
theorem sy{a:Expr}{ta:TA}{p pos:Pos}(hg:Gl X "range")(hm:X.mg "range"=none)(ha:PA X [a] ta)(hs:starEach [a] X.env=[(false,eval a X.env)]:=by rfl):PI X tg (.Call (.Name "range" p) [a] [] pos) (ZS ta):=by
 intro ah s Y H R I h;refine Call_ (gk I hg hm boot_range (o6 (cF (ha pos ah s Y H _ I h) ?_) hs rfl));rintro us s1 ⟨vs,H1,I1,r1,q1⟩;obtain⟨j,e,q1,q2,q⟩:=q1;subst e;cases r1 with
 |cons r rr=>cases rr;obtain⟨t,rfl⟩:=r;exact call_range_1 (vY I1 ⋯ ⋯ q1 q2 (by simpa using q))
theorem Ea{a b:Expr}{ta:TA}{p pos:Pos}(hg:Gl X "range")(hm:X.mg "range"=none)(ha:PA X [a,b] ta)(hs:starEach [a,b] X.env=[(false,eval a X.env),(false,eval b X.env)]:=by rfl)(hs2:starEach [b] X.env=[(false,eval b X.env)]:=by rfl) :
  PI X tg (.Call (.Name "range" p) [a,b] [] pos) (ZT ta):=by
 intro ah s Y H R I h;refine Call_ (gk I hg hm boot_range (o6 (cF (ha pos ah s Y H _ I h) λus s1 #[vs,H1,I1,r1,q1]=>?_) (by rw[hs,hs2]) (by rw[hs2];rfl)))
 obtain⟨i,j,e,⟨q1,q2,q3,q4⟩,q⟩:=q1;subst e;cases r1 with
 |cons r rr=>
  cases rr with
  |cons r' rr=>cases rr;obtain⟨t,rfl⟩:=r;obtain⟨t',rfl⟩:=r';exact call_range_2 (vY I1 q1 q2 q3 q4 q)
noncomputable def tFor(wi:TI)(g:TG)(tb:TS):TS:=λD Y H=>wi Y H λqqz H1=>∃W:Nat->Nat->St->Hp->Prop,(∃m,W 0 m Y H1)/\∀i m Y H,W i m Y H->
 (qqz.stop i H/\D.nx Y H)\/(qqz.go i H/\∃N:St->Hp->Prop,(∀σ' H',N σ' H'->∃m',m'<m/\W (i+1) m' σ' H')/\∀x H',qqz.Zd i H x H'->g x Y H' λσ2 H2=>tb { D with nx:=N,ct:=N,bk:=D.nx} σ2 H2)
noncomputable def lA(fp:List Addr)(h:Heap): ~~~1:=fp.filterMap λb=>(h.get? b).map λo=>(b,o)
theorem dH{fp:List Addr}{h:Heap}{b:Addr}{o:Obj}(hb:b∈fp)(e:h.get? b=!o):(b,o)∈lA fp h:=List.mem_filterMap.mpr #[b,hb,by rw[e];rfl]
theorem Eb(hp:p∈lA fp h):p.1∈fp/\h.get? p.1=!p.2:=by
 obtain⟨b,hb,e⟩:=List.mem_filterMap.mp hp;cases q:h.get? b with
 |none=>rw[q]at e;cases e
 |some o=>rw[q]at e;have e':=l5 e;subst e';exact#[hb,q]
theorem Inv.pinned{ah: ~~~1}{Y:St}{H:Hp}{s:Shared}{fp:List Addr}(I: ~~~7)(hf:∀b∈fp,lz X ah H b)(ho:∀b∈fp,∃o,s.heap.get? b=!o/\∀v,o.data≠.cell v):Inv X (ah++lA fp s.heap) Y H s:=
 I.Bm λp hp=>(o5.mp hp).elim (λz=>I.pin p (i6 _ z)) λz=>by
  obtain⟨hb,e⟩:=Eb z;obtain⟨f0,f1,f2,_⟩:=hf p.1 hb;obtain⟨o,e',d⟩:=ho p.1 hb;rw[e]at e';cases e';exact#[e,f0,f1,f2,d]
theorem Inv.iQ{ah pl: ~~~1}{Y:St}{H:Hp}{s:Shared}(I:Inv X (ah++pl) Y H s):Inv X ah Y H s:=I.Bm λp hp=>I.pin p (i6 _ (oD _ hp))
theorem Ib{iter:Expr}{body:List Stmt}{wi:TI}{g:TG}{tb:TS}{pos:Pos}(hp:PassesOwn (~~~2) X.A X.env X.xe)(hc:X.calm=true)(hi:PI X tg iter wi)(hg:PG X tg g)(hb:vN X body tb)
  (hs:∀x,foldedSetIterable iter X.env x=pure x:=by intro _;rfl):PS X (.For tg iter body [] pos) (tFor wi g tb):=by
 intro ah s Y H D I h;refine wpAny_For (cF (hi ah s Y H _ I h) λv s1 h1=>cF h1 λitv s2 h2=>?_) hs
 obtain⟨it,fp,tn,qqz,H2,e,I2,T,aK,f2,W,⟨m0,w0⟩,turn⟩:=h2;subst e;have stat:∀{H':Hp},(∀b∈fp,H' b=none)->∀b∈fp,lz X ah H' b:=λhn b hb=>#[hn b hb,(f2 b hb).2]
 refine codeAny_forLoop_any (λn s'=>∃i σ' H',Inv X ah σ' H' s'/\tn i s'.heap/\(∀b∈fp,H' b=none)/\W i n σ' H') ?_ m0 #[0,Y,H2,I2,aK,λb hb=>(f2 b hb).1,w0]
 rintro n s3 ⟨i,σ3,H3,I3,dZ,S2,w3⟩;rcases turn i n σ3 H3 w3 with ⟨stop,qn⟩ |⟨go,N,hN,step⟩
 . refine AH hp (cF (T.done X rfl rfl rfl hc i ah s3 σ3 H3 X.xe I3 (stat S2) dZ stop) ?_);rintro r s4 ⟨hr,I4⟩;subst hr;exact wpAny_execs_nil #[σ3,H3,I4,qn]
 .
  refine AH hp (cF (T.item X rfl rfl rfl hc i ah s3 σ3 H3 X.xe I3 (stat S2) dZ go) ?_);rintro r s4 ⟨u,hr,h4⟩;subst hr;refine AH hp (cF h4 ?_);rintro _ s5 ⟨x,H5,I5,r5,y5,ki,ZV⟩;have ZW:=I5.pinned (stat ZV) (T.obj _ _ ki);refine AH hp (cF (hg _ s5 σ3 H5 x u _ ZW r5 (step x H5 y5)) ?_);rintro _ s6 ⟨σ6,H6,I6,q6⟩;refine AH hp (cF (hb _ s6 σ6 H6 _ I6 q6) λf s7 q7=>?_)
  have again:∀{σ7:St}{H7:Hp},Inv X (ah++lA fp s5.heap) σ7 H7 s7->N σ7 H7->∃m,m<n/\∃i σ' H',Inv X ah σ' H' s7/\tn i s7.heap/\(∀b∈fp,H' b=none)/\W i m σ' H':=λ{σ7 H7} I7 n7=>by
   obtain⟨m',hm,w7⟩:=hN σ7 H7 n7;refine#[m',hm,i+1,σ7,H7,I7.iQ,T.keep _ _ _ ki λb hb o e=>(I7.pin (b,o) (i6 _ (i6 _ (dH hb e)))).1,λb hb=>?_,w7]
   obtain⟨o,e,d⟩:=T.obj _ _ ki b hb;exact (I7.pin (b,o) (i6 _ (i6 _ (dH hb e)))).2.1
  cases f with
  |next=>obtain⟨σ7,H7,I7,n7⟩:=q7;exact again I7 n7
  |cont=>obtain⟨σ7,H7,I7,n7⟩:=q7;exact again I7 n7
  |brk=>obtain⟨σ7,H7,I7,q7⟩:=q7;exact#[σ7,H7,I7.iQ,q7]
  |ret v=>obtain⟨x7,σ7,H7,I7,r7,q7⟩:=q7;exact#[x7,σ7,H7,I7.iQ,r7,q7]
end
abbrev R2:=V->V->Hp->VK->Prop
def lB(X:Cx)(f:Value->Value->Sem Value)(r:R2):Prop:=
 ∀(ah: ~~~1) (s:Shared) (Y:St) (H:Hp) (x y:V) (v u:Value) (Q:VK),Inv X ah Y H s->RelV x v->RelV y u->r x y H Q->
  wpAny (~~~2) X.A (f v u) (EP X ah Y Q) X.xe s
def eF(X:Cx)(f:Value)(r:List V->Hp->VK->Prop):Prop:=
 ∀(ah: ~~~1) (s:Shared) (Y:St) (H:Hp) (xs:List V) (us:List Value) (Q:VK),Inv X ah Y H s->Vals xs us->r xs H Q->
  wpAny (~~~2) X.A (call f us) (EP X ah Y Q) X.xe s
def TruR(X:Cx)(r:V->Hp->(Bool->Hp->Prop)->Prop):Prop:=
 ∀(ah: ~~~1) (s:Shared) (Y:St) (H:Hp) (x:V) (v:Value) (Q:Bool->Hp->Prop),Inv X ah Y H s->RelV x v->r x H Q->
  wpAny (~~~2) X.A (truthy v) (TP X ah Y Q) X.xe s
noncomputable def tOp(r:R2)(ta tb:TE):TE:=λY H Q=>ta Y H λx H1=>tb Y H1 λy H2=>r x y H2 Q
noncomputable def rI(C:Int->Int->Prop)(g:Int->Int->V):R2:=λx y H Q=>∃i j,x=.int i/\y=.int j/\C i j/\Q (g i j) H
noncomputable def Nz(g:Int->Int->V):R2:=λx y H Q=>∃i j,x=.int i/\y=.int j/\Q (g i j) H
section
variable{X:Cx}{a b c:Expr}{ta tb tc:TE}{pos:Pos}
theorem UL(ha:PE X a ta)(hb:PE X b tb){ah: ~~~1}{s:Shared}{Y:St}{H:Hp}{R:V->V->Hp->Prop}(I: ~~~7)
  (h:ta Y H λx H1=>tb Y H1 λy H2=>R x y H2) {Q:Value->Shared->Prop}{f:Value->Value->Sem Value}
  (hf:∀v u s2 x y H2,Inv X ah Y H2 s2->RelV x v->RelV y u->R x y H2->wpAny (~~~2) X.A (f v u) Q X.xe s2) :
  wpAny (~~~2) X.A (eval a X.env) (λv s₁=>wpAny (~~~2) X.A (eval b X.env) (λu s₂=>wpAny (~~~2) X.A (f v u) Q X.xe s₂) X.xe s₁) X.xe s:=by
 refine cF (ha ah s Y H _ I h) λv s1 #[x,H1,I1,r1,q1]=>?_
 refine cF (hb ah s1 Y H1 _ I1 q1) λu s2 #[y,H2,I2,r2,q2]=>?_
 exact hf v u s2 x y H2 I2 r1 r2 q2
theorem ZX{op:Operator}{r:R2}(ho:lB X (binaryOp op) r)(ha:PE X a ta)(hb:PE X b tb):PE X (.BinOp a op b pos) (tOp r ta tb):=by intro ah s Y H Q I h;exact wpAny_BinOp (UL ha hb I h λv u s2 x y H2 I2 rx ry q=>ho ah s2 Y H2 x y v u Q I2 rx ry q)
theorem opI{f:Value->Value->Sem Value}{C:Int->Int->Prop}{g:Int->Int->Int}
  (rule:∀(i j:Int) (t u:Tok) (s:Shared) (Q:Value->Shared->Prop) (E:Value->Shared->Prop),C i j->Q (.int (g i j) s.toks) { s with toks:=s.toks+1}->wpAny (~~~2) X.A (f (.int i t) (.int j u)) Q E s) :
  lB X f (rI C λi j=>.int (g i j)):=by
 intro ah s Y H x y v u Q I rx ry h;obtain⟨i,j,rfl,rfl,hc,q⟩:=h;obtain⟨t,rfl⟩:=rx;obtain⟨t',rfl⟩:=ry;exact rule i j t t' s _ _ hc #[.int (g i j),H,I.tok _,#[_,rfl],q]
theorem ZZ{f:Value->Value->Sem Value}{g:Int->Int->Int}
  (rule:∀(i j:Int) (t u:Tok) (s:Shared) (Q:Value->Shared->Prop) (E:Value->Shared->Prop),Q (.int (g i j) s.toks) { s with toks:=s.toks+1}->wpAny (~~~2) X.A (f (.int i t) (.int j u)) Q E s) :
  lB X f (Nz λi j=>.int (g i j)):=by
 intro ah s Y H x y v u Q I rx ry h;obtain⟨i,j,rfl,rfl,q⟩:=h;obtain⟨t,rfl⟩:=rx;obtain⟨t',rfl⟩:=ry;exact rule i j t t' s _ _ #[.int (g i j),H,I.tok _,#[_,rfl],q]
theorem Ob{f:Value->Value->Sem Value}{g:Int->Int->Bool}
  (rule:∀(i j:Int) (t u:Tok) (s:Shared) (Q:Value->Shared->Prop) (E:Value->Shared->Prop),Q (.bool (g i j)) s->wpAny (~~~2) X.A (f (.int i t) (.int j u)) Q E s) :
  lB X f (Nz λi j=>.bl (g i j)):=by
 intro ah s Y H x y v u Q I rx ry h;obtain⟨i,j,rfl,rfl,q⟩:=h;obtain⟨t,rfl⟩:=rx;obtain⟨t',rfl⟩:=ry;exact rule i j t t' s _ _ #[.bl (g i j),H,I,rfl,q]
def CPow(i j:Int):Prop:=0<=j/\j<=1000000/\i.natAbs<2 ^ 64
def UT(i j:Int):Prop:=(-(2 ^ 64)<i/\i<2 ^ 64)\/(-(2 ^ 64)<j/\j<2 ^ 64)
theorem UT.ok{i j:Int}(h:UT i j):IntMulOk i j:=by
 rcases h with ⟨h1,h2⟩ |⟨h1,h2⟩
 . exact .of_left (intBits_le_64 h1 h2)
 . exact .of_right (intBits_le_64 h1 h2)
theorem UW:lB X (binaryOp .Add) (Nz λi j=>.int (i+j)):=ZZ λ_ _ _ _ _ _ _ q=>add_int q
theorem U0:lB X (binaryOp .Sub) (Nz λi j=>.int (i - j)):=ZZ λ_ _ _ _ _ _ _ q=>sub_int q
theorem U1:lB X (binaryOp .Mult) (rI UT λi j=>.int (i * j)):=opI λ_ _ _ _ _ _ _ hc q=>mul_int q hc.ok
theorem U3:lB X (binaryOp .Mod) (rI (λ_ j=>0<j) λi j=>.int (i % j)):=opI λi j _ _ _ _ _ hc q=>by
 exact mod_int' ⋯ (by rw[Int.fmod_eq_emod_of_nonneg i ⋯];exact q)
theorem uz:lB X (binaryOp .Pow) (rI CPow λi j=>.int (i ^ j.toNat)):=opI λ_ _ _ _ _ _ _ hc q=>pow_int_small hc.1 hc.2.1 hc.2.2 q
end
section
variable{X:Cx}{a b c:Expr}{ta tb tc:TE}{pos:Pos}
theorem Ic(I: ~~~7)(q:Q (.bl k) H)(e:k=k'):EP X ah Y Q (.bool k') s:=by subst e;exact#[.bl k,H,I,rfl,q]
theorem Z0:lB X (compareOp .Lt) (Nz λi j=>.bl (decide (i<j))):=Ob λ_ _ _ _ _ _ _ q=>lt_int q
theorem Z1:lB X (compareOp .LtE) (Nz λi j=>.bl (decide (i<=j))):=Ob λ_ _ _ _ _ _ _ q=>le_int q
theorem Z2:lB X (compareOp .Gt) (Nz λi j=>.bl (decide (j<i))):=Ob λ_ _ _ _ _ _ _ q=>gt_int q
theorem Z3:lB X (compareOp .GtE) (Nz λi j=>.bl (decide (j<=i))):=Ob λ_ _ _ _ _ _ _ q=>ge_int q
theorem U4:lB X (compareOp .Is) (λx y H Q=>y=.non/\Q (.bl (decide (x=.non))) H):=by
 intro ah s Y H x y v u Q I rx ry h;obtain⟨rfl,q⟩:=h;cases ry;refine is_none_gen (Ic I q ?_);cases x <;> first
  | (cases rx;rfl)
  | (obtain⟨t,rfl⟩:=rx;rfl)
theorem Oc:lB X (compareOp .IsNot) (λx y H Q=>y=.non/\Q (.bl ((not (decide (x=.non))))) H):=by
 intro ah s Y H x y v u Q I rx ry h;obtain⟨rfl,q⟩:=h;cases ry;refine isnot_none_gen (Ic I q ?_);cases x <;> first
  | (cases rx;rfl)
  | (obtain⟨t,rfl⟩:=rx;rfl)
theorem Od{op:CmpOp}{r:R2}(ho:lB X (compareOp op) r)(ha:PE X a ta)(hb:PE X b tb)(hm:behindInMarks op b=false):PE X (.Compare a [op] [b] pos) (tOp r ta tb):=by intro ah s Y H Q I h;exact wpAny_Compare1 (UL ha hb I h λv u s2 x y H2 I2 rx ry q=>ho ah s2 Y H2 x y v u Q I2 rx ry q) hm
def Z4(t:TE):TT:=λY H Q=>t Y H λx H'=>∃k,x=.bl k/\Q k H'
theorem Oe{op:CmpOp}{r:R2}(ho:lB X (compareOp op) r)(ha:PE X a ta)(hb:PE X b tb)(hm:behindInMarks op b=false):PT X (.Compare a [op] [b] pos) (Z4 (tOp r ta tb)):=by
 intro ah s Y H Q I h;refine wpAny_isTrue_Compare1 (cF (ha ah s Y H _ I h) λv s1 #[x,H1,I1,r1,q1]=>cF (hb ah s1 Y H1 _ I1 q1) λu s2 #[y,H2,I2,r2,q2]=>
  cF (ho ah s2 Y H2 x y v u _ I2 r1 r2 q2) λc s3 #[z,H3,I3,r3,k,e,q3]=>?_) hm
 subst e;cases r3;exact oQ #[H3,I3,q3]
def Z5(K:Frag)(x:V)(H:Hp)(k:Bool):Prop:=
 match x with
 |.non=>k=false
 |.bl b=>k=b
 |.int i=>k=(i != 0)
 |.str y=>y.length<=sizeLine/\k=((y.length:Int) != 0)
 |.SN y=>y.size<=sizeLine/\k=((y.size:Int) != 0)
 |.ref p=>(∃xs,cZ K H p xs/\k=(not xs.isEmpty))\/(∃xs,iO K H p xs/\k=(not xs.isEmpty))\/∃mQ,H p=!(.dK mQ)/\k=(not mQ.isEmpty)
 |_=>False
theorem za{κ:Type}{mQ:List (κ×V)}{vs:List (κ×Value)}(r:KV mQ vs):((not vs.isEmpty))=(not mQ.isEmpty):=by cases r <;> rfl
theorem oK{xs:List V}{its:List Value}(r:Vals xs its):((not its.toArray.isEmpty))=(not xs.isEmpty):=by cases r <;> simp
theorem zb:(sizeLine:Nat)<2 ^ 63:=by rw[sT];decide
theorem U5:TruR X (λx H Q=>∃k,Z5 X.K x H k/\Q k H):=by
 intro ah s Y H x v Q I rx h;obtain⟨k,e,q⟩:=h;have hs:=sT;cases x with
 |non=>cases rx;have e':=e;subst e';exact truthy_none #[H,I,q]
 |bl b=>cases rx;have e':=e;subst e';exact oQ #[H,I,q]
 |int i=>obtain⟨t,rfl⟩:=rx;have e':=e;subst e';exact PySem.P.truthy_int #[H,I,q]
 |str y=>obtain⟨t,rfl⟩:=rx;obtain⟨hy,e'⟩:y.length<=sizeLine/\k=((y.length:Int) != 0):=e;subst e';exact PySem.P.truthy_str ⋯ #[H,I.tok _,q]
 |SN y=>obtain⟨t,rfl⟩:=rx;obtain⟨hy,e'⟩:y.size<=sizeLine/\k=((y.size:Int) != 0):=e;subst e';exact PySem.W.truthy_bytes ⋯ #[H,I.tok _,q]
 |ref p=>
  cases rx;have e':=e;rcases e' with ⟨xs,hx,e'⟩ |⟨xs,hx,e'⟩ |⟨mQ,hx,e'⟩
  . subst e';obtain⟨its,r,pl,hz⟩:=I.list hx;have aJ:=r.length;exact wpAny_truthy_list pl.isList (by simp only[d5];lia) #[H,I.tok _,by rw[oK r];exact q]
  . subst e';obtain⟨its,r,pl,hz⟩:=I.tuple hx;have aJ:=r.length;exact truthy_tuple pl (by simp only[d5];lia) #[H,I.tok _,by rw[oK r];exact q]
  . subst e';obtain⟨hz,hS,vs,r,m⟩:mQ.length<=sizeLine/\(p==sysModules)=false/\∃vs,KV mQ vs/\s.heap.DictOf (uv X.prog X.w) p vs:=I.hok p _ hx;have aJ:=Paired.length r;exact wpAny_truthy_dict hS m ⋯ #[H,I.tok _,by rw[za r];exact q]
 |_=>exact (show False from e).elim
theorem Ie(ha:PE X a ta)(he:∀whole,isTrue a X.env whole=(do let v <- whole;standAt a.pos;holding [v] (truthy v))) :
  PT X a (λY H Q=>ta Y H λx H'=>∃k,Z5 X.K x H' k/\Q k H'):=by
 intro ah s Y H Q I h;exact isTrue_plain (cF (ha ah s Y H _ I h) (by rintro v s1 ⟨x,H1,I1,r1,q1⟩;exact U5 ah s1 Y H1 x v Q I1 r1 q1)) (he _)
theorem vals1(r:Vals [x] us):∃u,us=[u]/\RelV x u:=by
 cases r with
 |cons r1 r2=>cases r2;exact#[_,rfl,r1]
theorem vals2(r:Vals [x,y] us):∃u w',us=[u,w']/\RelV x u/\RelV y w':=by
 cases r with
 |cons r1 r2=>
  cases r2 with
  |cons r3 r4=>cases r4;exact#[_,_,rfl,r1,r3]
theorem Ec(hc:X.calm=true):eF X (.builtin "max") (λxs H Q=>∃i j,xs=[.int i,.int j]/\Q (.int (if j > i then j else i)) H):=by
 intro ah s Y H xs us Q I r h;obtain⟨i,j,rfl,q⟩:=h;obtain⟨u,w',rfl,⟨t,rfl⟩,⟨t',rfl⟩⟩:=vals2 r;refine max_two_ints (I.ok.hd hc) λh' tk k=>#[_,H,I.kept k,?_,q]
 by_cases hj:j > i
 . rw[eR hj,eR hj];exact#[_,rfl]
 . rw[eP hj,eP hj];exact#[_,rfl]
theorem Ed(hc:X.calm=true):eF X (.builtin "min") (λxs H Q=>∃i j,xs=[.int i,.int j]/\Q (.int (if j<i then j else i)) H):=by
 intro ah s Y H xs us Q I r h;obtain⟨i,j,rfl,q⟩:=h;obtain⟨u,w',rfl,⟨t,rfl⟩,⟨t',rfl⟩⟩:=vals2 r;refine min_two_ints (I.ok.hd hc) λh' tk k=>#[_,H,I.kept k,?_,q]
 by_cases hj:j<i
 . rw[eR hj,eR hj];exact#[_,rfl]
 . rw[eP hj,eP hj];exact#[_,rfl]
def LenV(K:Frag)(x:V)(H:Hp)(n:Nat):Prop:=
 match x with
 |.str y=>y.length<=sizeLine/\n=y.length
 |.SN y=>y.size<=sizeLine/\n=y.size
 |.ref p=>(∃xs,cZ K H p xs/\n=xs.length)\/∃xs,iO K H p xs/\n=xs.length
 |_=>False
theorem Ig:eF X (.builtin "len") (λxs H Q=>∃x n,xs=[x]/\LenV X.K x H n/\Q (.int n) H):=by
 intro ah s Y H xs us Q I r h;obtain⟨x,n,rfl,e,q⟩:=h;obtain⟨u,rfl,rx⟩:=vals1 r;have hs:=sT;cases x with
 |str y=>obtain⟨t,rfl⟩:=rx;obtain⟨hy,e'⟩:y.length<=sizeLine/\n=y.length:=e;subst e';exact len_str ⋯ #[.int _,H,I.tok _,#[_,rfl],q]
 |SN y=>obtain⟨t,rfl⟩:=rx;obtain⟨hy,e'⟩:y.size<=sizeLine/\n=y.size:=e;subst e';exact PySem.W.len_bytes ⋯ #[.int _,H,I.tok _,#[_,rfl],q]
 |ref p=>
  cases rx;have e':=e;rcases e' with ⟨xs,hx,e'⟩ |⟨xs,hx,e'⟩
  . subst e';obtain⟨its,r',pl,hz⟩:=I.list hx;have aJ:=r'.length;exact Calls.call_len_list pl.isList (by simp only[d5];lia) #[.int xs.length,H,I.tok _,#[_,by simp only[d5];rw[aJ]],q]
  . subst e';obtain⟨its,r',pl,hz⟩:=I.tuple hx;have aJ:=r'.length;exact len_tuple pl (by simp only[d5];lia) #[.int xs.length,H,I.tok _,#[_,by simp only[d5];rw[aJ]],q]
 |_=>exact (show False from e).elim
end
structure iK(k:Nat)(A:Around):Prop where
 hd:A.handled=none
 dp:A.depth+3 * k+5<recursionLimit
 un:A.units+16 * k+200<cLine
theorem iK.deeper(r:iK (k+1) A)(env:Env):iK k (A.deeper env):=
 #[r.hd,by have:=r.dp;show A.depth+1+3 * k+5<_;lia,by have:=r.un;show A.units+3+16 * k+200<_;lia]
theorem iK.depth(r:iK k A):A.depth<recursionLimit:=by have:=r.dp;lia
theorem iK.units(r:iK k A):A.units+64<cLine:=by have:=r.un;lia
def tNil:TA:=λ_ H Q=>Q [] H
noncomputable def Z6(ta:TE)(tr:TA):TA:=λY H Q=>ta Y H λx H1=>tr Y H1 λxs H2=>Q (x::xs) H2
section
variable{X:Cx}{e:Expr}{es:List Expr}{te:TE}{t:TA}{pos:Pos}
theorem lC:PA X [] tNil:=λ_ _ _ _ H Q I h=>Calls.spliced_nil #[[],H,I,.nil,h]
theorem iA(ha:PE X e te)(hr:PA X es t)(hs:starEach (e::es) X.env=(false,eval e X.env)::starEach es X.env:=by rfl):PA X (e::es) (Z6 te t):=by intro pos ah s Y H Q I h;rw[hs];refine Calls.spliced_cons (cF (ha ah s Y H _ I h) ?_);rintro u s1 ⟨x,H1,I1,r1,q1⟩;exact cF (hr pos ah s1 Y H1 _ I1 q1) (by rintro us s2 ⟨xs,H2,I2,r2,q2⟩;exact#[x::xs,H2,I2,.cons r1 r2,q2])
def tTup(t:TA):TE:=λY H Q=>t Y H λxs H1=>xs.length<=sizeLine/\∀p,H1 p=none->Q (.ref p) (upd H1 p (.tup xs))
def tLst(t:TA):TE:=λY H Q=>t Y H λxs H1=>xs.length<=sizeLine/\∀p,H1 p=none->Q (.ref p) (upd H1 p (.lst xs))
theorem U6{x1}(h:PA X es t):PE X (.Tuple es x1 pos) (tTup t):=by
 intro ah s Y H Q I hq;refine wpAny_Tuple_spliced (cF (h pos ah s Y H _ I hq) λus s1 #[xs,H1,I1,r,z,q]=>#[by rw[<- r.length];exact z,?_])
 have hf:=I1.hok.fresh (eD _);refine#[.ref s1⁻¹,upd H1 s1⁻¹ (.tup xs),I1.laid (λb u e=>dC _ e) (eD _) ?_,rfl,q _ hf]
 exact#[z,us,r,#[_,eQ _ rfl,#[rfl,_,rfl],rfl]]
theorem Ih(h:PA X es t):PE X (.List es pos) (tLst t):=by
 intro ah s Y H Q I hq;refine wpAny_List_spliced (cF (h pos ah s Y H _ I hq) λus s1 #[xs,H1,I1,r,z,q]=>#[by rw[<- r.length];exact z,?_])
 have hf:=I1.hok.fresh (eD _);refine#[.ref s1⁻¹,upd H1 s1⁻¹ (.lst xs),I1.laid (λb u e=>dC _ e) (eD _) ?_,rfl,q _ hf]
 exact#[z,us,0,r,eQ _ rfl]
end
abbrev Sp:=List V->Hp->VK->XK->Prop
abbrev Ii:=List Env->Hp->Shared->XK->Value->Shared->Prop
structure Og(P:Program)(w:World)(K:Frag)(mg:Str->Option Value)(base:Heap)(A:Around)(outer:List Env)(s:Shared)(H:Hp):Prop where
 frames:A.frames=!outer
 mod:Mod K mg base
 bs:∀b o,base.get? b=!o->s.heap.get? b=!o/\H b=none
 N4:base.objs.size<=s⁻¹
 nI:s.heap.FunFrames base outer
 Uo:∀b∈frs outer,H b=none
 hok:oG P w H s.heap
 bare:AllBare s.gens
def CE(outer:List Env)(P:Program)(w:World)(H:Hp)(s:Shared)(Q:VK)(u:Value)(s':Shared):Prop:=
 ∃v H',s'.os=s.os/\AllBare s'.gens/\Un (frs outer) [] H H' s.heap s'.heap/\oG P w H' s'.heap/\RelV v u/\Q v H'
def CR(CX:Ii)(outer:List Env)(P:Program)(w:World)(H:Hp)(s:Shared)(Q:VK)(E:XK)(r:Result)(s':Shared):Prop:=
 match r with
 |.ok (.ret u)=>CE outer P w H s Q u s'
 |.ok _=>False
 |.error e=>CX outer H s E e s'
structure rH(P:Program)(w:World)(K:Frag)(mg:Str->Option Value)(base:Heap)(CX:Ii)(k:Nat)(f:Addr)(fd:FuncData)(ps:List Str)(sp:Sp):Prop where
 len:∀vs H Q E,sp vs H Q E->vs.length=ps.length
 run:∀(A:Around) (outer:List Env) (s:Shared) (H:Hp) (args:Args) (us:List Value) (vs:List V) (Q:VK) (E:XK),iK k A->Og P w K mg base A outer s H->BindsTo s fd args (ps.zip us)->Vals vs us->sp vs H Q E->
  codeAny (model P w) A (.call (.ref f) args) (CR CX outer P w H s Q E) s
section
variable{X:Cx}{ah: ~~~1}{Y:St}{H:Hp}{s s':Shared}
theorem Inv.env0(I: ~~~7):Og X.prog X.w X.K X.mg X.base X.A X.stack s H:=
 #[I.ok.frames,I.ok.mod,I.bs,l4 I.ok.N4 I.sz,I.stack,I.Bj,I.hok,I.bare]
theorem Inv.after(I: ~~~7)(h:CE X.stack X.prog X.w H s Q u s'):EP X ah Y Q u s':=by obtain⟨v,H',os,bare,un,hok,r,q⟩:=h;obtain⟨hh,g,d,t,os'⟩:=s';obtain rfl:os'=s.os:=os;exact#[v,H',I.call un hok bare (λb z=>absurd z ⋯),r,q]
end
noncomputable def Z7(sp:Sp)(Ef:List V)(E:XK)(t:TA):TE:=λY H Q=>t Y H λvs H1=>sp (vs++Ef) H1 Q E
def Binds(K:Frag)(fd:FuncData)(ps:List Str)(ds:List Value):Prop:=
 ∀(s:Shared) (us:List Value),K.In s.heap->(us++ds).length=ps.length->BindsTo s fd #[us,[]] (ps.zip (us++ds))
theorem Binds.all{K:Frag}{fd:FuncData}{ps:List Str}(h:∀us:List Value,us.length=ps.length->bindArgs fd #[us,[]]=pure (ps.zip us)):Binds K fd ps []:=λs us _ hl=>by
 rw[n0]at hl ⊢
 exact .of_eq (h us hl)
def Passes(CX:Ii)(X:Cx)(E:XK):Prop:=∀(ah: ~~~1) (Y:St) (H:Hp) (s:Shared) (e:Value) (s':Shared),Inv X ah Y H s->CX X.stack H s E e s'->X.xe e s'
section
variable{X:Cx}{CX:Ii}{k:Nat}{f C:Addr}{fd:FuncData}{ps:List Str}{sp:Sp}{Ef:List V}{ds:List Value}{E:XK}{x m:Str}{p pos nW:Pos}{e o:Expr}{es:List Expr}{ta:TE}{t:TA}
theorem U7{ah: ~~~1}{Y:St}{H:Hp}{s:Shared}{Q:VK}{us:List Value}{vs:List V}(F:rH X.prog X.w X.K X.mg X.base CX k f fd ps sp)(hr:iK k X.A)(hb:Binds X.K fd ps ds)(hd:Vals Ef ds)(hx:Passes CX X E)
  (I: ~~~7) (r:Vals vs us) (h:sp (vs++Ef) H Q E):wpAny (~~~2) X.A (call (.ref f) us) (EP X ah Y Q) X.xe s:=by
 have r2:=r.append hd;have hl:(us++ds).length=ps.length:=by rw[<- r2.length];exact F.len _ _ _ _ h
 refine wpAny_call (codeAny_mono (F.run X.A X.stack s H #[us,[]] (us++ds) (vs++Ef) Q E hr I.env0 (hb s us I.yS hl) r2 h) λr s' hq=>?_)
 cases r with
 |error e=>exact hx ah Y H s e s' I hq
 |ok fl=>
  cases fl with
  |ret u=>exact I.after hq
  |next=>exact False.elim hq
  |brk=>exact False.elim hq
  |cont=>exact False.elim hq
theorem Oh(F:rH X.prog X.w X.K X.mg X.base CX k f fd ps sp)(hr:iK k X.A)(hg:Gl X x)(hm:X.mg x=!(.ref f))(hk:PySem.W.keepIn X.K (.ref f)=true)(hb:Binds X.K fd ps ds)(hd:Vals Ef ds)(hx:Passes CX X E)
  (ha:PA X (e::es) t) (DQ:(x==(~~~3))=false:=by decide) (he:starEach (e::es) X.env=(false,eval e X.env)::starEach es X.env:=by rfl) (jE:(backTo pos (starEach es X.env)).any (·.1)=false:=by rfl) :
  PE X (.Call (.Name x p) (e::es) [] pos) (Z7 sp Ef E t):=by
 intro ah s Y H Q I h;refine AV (Bo I hg hm ?_ DQ);refine PySem.W.callWith_K I.ok.mod.kin hk (cF (ha pos ah s Y H _ I h) λus s1 #[vs,H1,I1,r,q]=>#[I1.yS,?_]) he jE
 exact U7 F hr hb hd hx I1 r q
end
structure fQ(N P:List Str)(sc:Scope):Prop where
 kind:sc.kind=.function
 co:sc.isCoroutine=false
 gen:sc.isGenerator=false
 nd:N.Nodup
 pre:N.take P.length=P
 par:∀x∈P,sc.names.lookup x=some .local\/sc.names.lookup x=some .cell
 U8:∀y∈sc.names,y.2≠.free
theorem sA{kindOf:Str->Option NameKind}{x:Str}:∀{binds:List (Str×Value)}{m:Str->Option Value},(∀v,(x,v)∉binds)->bindL kindOf binds m x=m x
 | [],_,_=>rfl
 | (n,v)::r,m,h=>by
  unfold bindL;rw[sA λw hw=>h w (bP _ hw)]
  split
  .
   have:x≠n:=by rintro rfl;exact h v b0
   simp[this]
  . rfl
theorem sC{kindOf:Str->Option NameKind}{x:Str}:∀{binds:List (Str×Value)}{m:Str->Option Value},(∀v,(x,v)∉binds)->bindC kindOf binds m x=m x
 | [],_,_=>rfl
 | (n,v)::r,m,h=>by
  unfold bindC;rw[sC λw hw=>h w (bP _ hw)]
  split
  . rfl
  .
   have:x≠n:=by rintro rfl;exact h v b0
   simp[this]
theorem sD{kindOf:Str->Option NameKind}{x:Str}{v:Value}:∀{P:List Str}{vs:List Value}{i:Nat}{m:Str->Option Value},P.Nodup->P[i]?=!x->vs[i]?=!v->kindOf x=some .local->
  bindL kindOf (P.zip vs) m x=!v
 | [],_,_,_,_,h,_,_=>by simp at h
 |_::_,[],_,_,_,_,h,_=>by simp at h
 |p::P,w::vs,0,m,nd,h1,h2,hk=>by
  simp at h1 h2;subst h1;subst h2;show bindL kindOf ((p,w)::P.zip vs) m p=_;unfold bindL;rw[sA λv hv=>(gN.mp nd).1 (List.of_mem_zip hv).1,eR hk]
  simp
 |p::P,w::vs,i+1,m,nd,h1,h2,hk=>by
  unfold bindL;exact sD (gN.mp nd).2 (by simpa using h1) (by simpa using h2) hk
theorem sE{kindOf:Str->Option NameKind}{x:Str}{v:Value}:∀{P:List Str}{vs:List Value}{i:Nat}{m:Str->Option Value},P.Nodup->P[i]?=!x->vs[i]?=!v->kindOf x≠some .local->
  bindC kindOf (P.zip vs) m x=!v
 | [],_,_,_,_,h,_,_=>by simp at h
 |_::_,[],_,_,_,_,h,_=>by simp at h
 |p::P,w::vs,0,m,nd,h1,h2,hk=>by
  simp at h1 h2;subst h1;subst h2;show bindC kindOf ((p,w)::P.zip vs) m p=_;unfold bindC;rw[sC λv hv=>(gN.mp nd).1 (List.of_mem_zip hv).1,eP hk]
  simp
 |p::P,w::vs,i+1,m,nd,h1,h2,hk=>by
  unfold bindC;exact sE (gN.mp nd).2 (by simpa using h1) (by simpa using h2) hk
noncomputable def start(N:List Str)(vs:List V):St:=vs.map some++List.replicate (N.length - vs.length) none
noncomputable def vZ(CX:Ii)(P:Program)(w:World)(K:Frag)(mg:Str->Option Value)(base:Heap)(N:List Str)(qual:Str)(scope:Scope)(f:Addr)(cd:Value)(A:Around)(outer:List Env)(s:Shared)(H:Hp)(E:XK):Cx where
 prog:=P
 w:=w
 K:=K
 mg:=mg
 base:=base
 A:=A.deeper (envOfC qual scope s⁻¹ f cd)
 N:=N
 s₀:=s
 H₀:=H
 env:=envOfC qual scope s⁻¹ f cd
 outer:=outer
 stack:=envOfC qual scope s⁻¹ f cd::outer
 ex:=[]
 calm:=true
 fn:=λ_=>true
 pn:=[]
 xe:=λe s'=>wpAny (model P w) (A.deeper (envOfC qual scope s⁻¹ f cd)) (leaving (envOfC qual scope s⁻¹ f cd) e) (λ_ s''=>CX outer H s E e s'') (λe' s''=>CX outer H s E e' s'') s'
theorem v5{sc:Scope}{n:Nat}{x:Str}(h:sc.names.lookup x=some .cell):∃c,(cellsFrom n sc.names []).lookup x=!c:=by have q:=PySem.W.cellsFrom_some sc.names n [] (.inl h);exact Option.isSome_iff_exists.mp q
theorem Eg{CX:Ii}{P:Program}{w:World}{K:Frag}{mg:Str->Option Value}{base:Heap}{N ps:List Str}{qual:Str}{scope:Scope}{f:Addr}{cd:Value}{A:Around}{outer:List Env}{s s1:Shared}{H:Hp}{E:XK}{us:List Value}{vs:List V}
  (S:fQ N ps scope) (hd:A.handled=none) (e0:Og P w K mg base A outer s H) (hl:vs.length=ps.length) (r:Vals vs us)
  (x:InCallC s s⁻¹ (bindL (envOfC qual scope s⁻¹ f cd).kindOf (ps.zip us) λ_=>none) (cellsFrom (s⁻¹+1) scope.names []) (bindC (envOfC qual scope s⁻¹ f cd).kindOf (ps.zip us) λ_=>none) s1) :
  Inv (vZ CX P w K mg base N qual scope f cd A outer s H E) [] (start N vs) H s1:=by
 have jE:ps.length<=N.length:=by have:=congrArg List.length S.pre;rw[t9]at this;lia
 obtain⟨h1,tk,rfl,hk⟩:=x.done;have Z8:∀b:Addr,b∉(vZ CX P w K mg base N qual scope f cd A outer s H E).ex:=λb z=>absurd (show b∈([]:List Addr)from z) ⋯
 refine#[#[e0.mod,S.kind,rfl,rfl,eD _,λy z c h1 h2=>?_,λy hy=>?_,λy c _ h=>?_,λ_=>hd,Around.frames_deeper e0.frames,.inr #[rfl,rfl],λb z=>absurd z (Z8 b),e0.bs,e0.N4,λb _ _=>Z8 b,λb z=>absurd z (Z8 b),e0.nI,e0.Uo],
  rfl,e0.bare,Un.kept hk,#[_,x.toInCall.ns,λi y v h1 h2 h3=>?_],λy c h=>#[_,x.cell y c h],e0.hok.fresh (eD _),λy c h=>?_,λp hp=>absurd (show p∈([]: ~~~1)from hp) ⋯,e0.hok.kept hk,?_]
 . exact name_of_addr x.apart (AQ h1) (AQ h2)
 .
  have hy:=hy;rcases hy with hy |hy
  . exact v5 hy
  . exact absurd rfl (S.U8 _ (AQ hy))
 . exact CL (x.above y c (AQ h))
 .
  have hi:i<vs.length:=by
   unfold start at h2;by_cases hi:i<vs.length
   . exact hi
   .
    rw[eI (by simpa using hi)]at h2
    rw[List.getElem?_replicate]at h2;split at h2 <;> cases h2
  have ha:vs[i]?=!v:=by
   unfold start at h2;rw[dL (by simpa using hi),l6]at h2
   cases e:vs[i]? with
   |none=>rw[e]at h2;cases h2
   |some a=>rw[e]at h2;cases h2;rfl
  obtain⟨u,hu,rv⟩:=r.get ha;have hp:ps[i]?=!y:=by rw[<- S.pre,tI ⋯];exact h1
  have Z9:ps.Nodup:=by rw[<- S.pre];exact S.nd.sublist (List.take_sublist _ _)
  refine#[u,rv,?_];rcases S.par y (i8 hp)with k |k
  . exact .inl #[k,sD Z9 hp hu k]
  .
   obtain⟨c,e⟩:=v5 k;refine .inr #[.inl k,c,e,?_];have q:=x.cell y c e;rw[sE Z9 hp hu (by show scope.names.lookup y≠_;rw[k];decide)]at q
   exact q
 . exact e0.hok.fresh (CL (x.above y c (AQ h)))
 . unfold start;show _=N.length;rw[fA,d6,kS];lia
theorem aac{CX:Ii}{P:Program}{w:World}{K:Frag}{mg:Str->Option Value}{base:Heap}{k:Nat}{f:Addr}{name qual:Str}{params:Arguments}{body:List Stmt}{scope:Scope}{dV kV doc pm gj ct oc:Value}{an od:Option Addr}
  {osl:Array (Option Value)}{N ps:List Str}{sp:Sp} (lk:K.lookup f=!#[oc,od,.func (PySem.W.fnOf name qual params body scope dV kV doc pm an gj ct),osl]) (ie:PySem.W.codeIn K gj qual=true) (S:fQ N ps scope)
  (len:∀vs H Q E,sp vs H Q E->vs.length=ps.length)
  (hbody:∀(A:Around) (outer:List Env) (s:Shared) (H:Hp) (vs:List V) (Q:VK) (E:XK),iK k (A.deeper (envOfC qual scope s⁻¹ f gj))->sp vs H Q E->
   ∃t,vN (vZ CX P w K mg base N qual scope f gj A outer s H E) body t/\t { nx:=λ_ H'=>Q .non H',rt:=Q} (start N vs) H) :
  rH P w K mg base CX (k+1) f (PySem.W.fnOf name qual params body scope dV kV doc pm an gj ct) ps sp:=by
 refine#[len,λA outer s H args us vs Q E hr e0 hb r Ze=>?_]
 have hl:=len _ _ _ _ Ze;have KX:=e0.mod.kin.keeps λb o e=>(e0.bs b o e).1
 have lim:=e0.mod.nolimit.keeps λb o e=>(e0.bs b o e).1
 have hkind:∀y∈ps.zip us,scope.names.lookup y.1=some .local\/(scope.names.lookup y.1=some .cell/\((cellsFrom (s⁻¹+1) scope.names []).lookup y.1).isSome=true):=by
  rintro⟨n,v⟩ hy;rcases S.par n (List.of_mem_zip hy).1 with q |q
  . exact .inl q
  . exact .inr #[q,PySem.W.cellsFrom_some _ _ _ (.inl q)]
 refine codeAny_call_function hr.depth (KX _ _ lk) rfl S.co S.gen rfl (PySem.W.codeRec_of KX ie) (hb _ _ _ _ ?_);refine wpAny_newFunctionEnv_cells S.kind hkind λenv he s1 x=>?_
 subst he;refine#[lim.keeps x.toInCall.keep,codeAny_func ?_];obtain⟨t,ht,hq⟩:=hbody A outer s H vs Q E (hr.deeper _) Ze;have I:Inv (vZ CX P w K mg base N qual scope f gj A outer s H E) [] (start N vs) H s1:=Eg S hr.hd e0 hl r x;refine mI (ht [] s1 (start N vs) H _ I hq) (λfl s' hs=>?_) λe s' hs=>hs
 have fin:∀{σ':St}{H':Hp}{v:V}{u:Value},Inv (vZ CX P w K mg base N qual scope f gj A outer s H E) [] σ' H' s'->RelV v u->Q v H'->CE outer P w H s Q u s':=
  λ{σ' H' v u} qqz rv q=>#[v,H',qqz.os,qqz.bare,qqz.base,qqz.hok,rv,q]
 cases fl with
 |ret u=>obtain⟨v,σ',H',qqz,rv,q⟩:=hs;exact fin qqz rv q
 |next=>obtain⟨σ',H',qqz,q⟩:=hs;exact fin (v:=V.non) qqz rfl q
 |brk=>obtain⟨_,_,_,q⟩:=hs;exact False.elim q
 |cont=>obtain⟨_,_,_,q⟩:=hs;exact False.elim q
section
variable{X:Cx}{x:Str}{p pos:Pos}{e:Expr}{es:List Expr}{t:TA}{id T:String}{r:List V->Hp->VK->Prop}
noncomputable def tCB(r:List V->Hp->VK->Prop)(t:TA):TE:=λY H Q=>t Y H λvs H1=>r vs H1 Q
theorem oM(hc:eF X (.builtin id) r)(hg:Gl X x)(hm:X.mg x=none)(hv:bootBuiltins x=!(.builtin id))(ha:PA X (e::es) t)(hn:x≠ "__name__" :=by decide)(DQ:(x==(~~~3))=false:=by decide)
  (he:starEach (e::es) X.env=(false,eval e X.env)::starEach es X.env:=by rfl) (jE:(backTo pos (starEach es X.env)).any (·.1)=false:=by rfl):PE X (.Call (.Name x p) (e::es) [] pos) (tCB r t):=by
 intro ah s Y H Q I h;refine AV (gk I hg hm hv ?_ hn DQ);exact PyProof.Rows.callWith_builtin1 (cF (ha pos ah s Y H _ I h) (by rintro us s1 ⟨vs,H1,I1,r1,q1⟩;exact hc ah s1 Y H1 vs us Q I1 r1 q1)) he jE
theorem Eh(hc:eF X (.type T) r)(hg:Gl X x)(hm:X.mg x=none)(hv:bootBuiltins x=!(.type T))(ha:PA X (e::es) t)(hn:x≠ "__name__" :=by decide)(DQ:(x==(~~~3))=false:=by decide)
  (he:starEach (e::es) X.env=(false,eval e X.env)::starEach es X.env:=by rfl) (jE:(backTo pos (starEach es X.env)).any (·.1)=false:=by rfl):PE X (.Call (.Name x p) (e::es) [] pos) (tCB r t):=by
 intro ah s Y H Q I h;refine AV (gk I hg hm hv ?_ hn DQ);exact o6 (cF (ha pos ah s Y H _ I h) λus s1 #[vs,H1,I1,r1,q1]=>hc ah s1 Y H1 vs us Q I1 r1 q1) he jE
end
end L2
namespace HT
open PySem PyProof.Rows
noncomputable def lexLt: ~~~0->~~~0->Bool
 | [],[]=>false
 | [],_::_=>true
 |_::_,[]=>false
 |x::xs,y::ys=>if x=y then lexLt xs ys else decide (x<y)
theorem cU(x y:Int)(xs ys: ~~~0):lexLt (x::xs) (y::ys)=if x=y then lexLt xs ys else decide (x<y):=rfl
theorem rJ:lexLt [] []=false:=rfl
theorem oN(y:Int)(ys: ~~~0):lexLt [] (y::ys)=true:=rfl
theorem oO(x:Int)(xs: ~~~0):lexLt (x::xs) []=false:=rfl
theorem oR(A:Around)(s:Shared)(a:Int)(t:Tok)(c:Int)(u:Tok):∃e,SeqAt.EqAt A s (.int a t) (.int c u) e/\(e=true ↔ a=c):=
 #[(a==c),SeqAt.EqAt.int_int a t c u,by simp]
theorem oU(A:Around)(s:Shared)(a:Int)(t:Tok)(c:Int)(u:Tok)(prog:Program)(w:World)(E:Value->Shared->Prop)(Q:Value->Shared->Prop)(h:Q (.bool (decide (a<c))) s) :
  wpAny (model prog w) A (richCompare .Lt (.int a t) (.int c u)) Q E s:=
 (PyProof.Rows.lt_int h:wpAny (model prog w) A (compareOp .Lt (.int a t) (.int c u)) Q E s)
section
open PySem.SeqAt
open PySem.AutoSeq1 (wpAny_loadPart')
open PySem.MeetsSeq PySem.MeetsSeq2 PySem.MeetsSeq3
theorem rK(l b:Addr)(items items2:Array Value)(n n2:Nat)(dd dd2:Option Addr)(sl sl2:Array (Option Value))(ns ms: ~~~0)(hi:IntsAre items.toList ns)(hj:IntsAre items2.toList ms) :
  Meets (Builtin.«tuple.__lt__» #[[.ref l,.ref b],[]])
   (λ_ R s=>s.heap.get? l=some { cls:=.type "tuple",dict:=dd,data:=.seq items n,slots:=sl}/\s.heap.get? b=some { cls:=.type "tuple",dict:=dd2,data:=.seq items2 n2,slots:=sl2}/\
    R (.ok (.ret (.bool (lexLt ns ms)))) s):=
 .of_wp λprog w A R s h=>by
  obtain⟨hp,g,d,tk,os⟩:=s;obtain⟨hl,hb,h⟩:=h;have f2:=AutoSeq1.sub_tuple_tuple;have z1:items.size=ns.length:=by rw[<- hi.length];simp
  have z2:items2.size=ms.length:=by rw[<- hj.length];simp
  wp_walk using wpAny_loadPart' hl,wpAny_loadPart' hb,Ap _ (λaD b s'=>b.1=none/\s'=#[hp,g,d,tk,os]/\∃(vs ws:List Value) (ns' ms': ~~~0),aD=vs.zip ws/\
   IntsAre vs ns'/\IntsAre ws ms'/\ns'.length+items2.size=ms'.length+items.size/\R (.ok (.ret (.bool (lexLt ns' ms')))) #[hp,g,d,tk,os]) _
  case turn=>
   rintro⟨y,x⟩ aD b s' ⟨hb',rfl,vs,ws,ns',ms',hz,hvi,hwi,aJ,hR⟩;cases hvi with
   |nil=>rw[List.zip_nil_left]at hz;cases hz
   |cons a t hvi'=>
    cases hwi with
    |nil=>rw[List.zip_nil_right]at hz;cases hz
    |cons c u hwi'=>
     rw[w8]at hz;injection hz with hyx hrest;injection hyx with hy hx;subst hy hx;rw[cU]at hR;simp only[hV]at aJ;obtain⟨e,he,hiff⟩:=oR A.in1 #[hp,g,d,tk,os] a t c u;refine aS (he prog w _ _ ?_);cases e with
     |true=>
      rw[eR (hiff.mp rfl)]at hR
      wp_walk
      exact#[rfl,rfl,_,_,_,_,hrest,hvi',hwi',by lia,hR]
     |false=>
      rw[eP (λq=>absurd (hiff.mpr q) t6)]at hR
      have hri:=oU A.in1 #[hp,g,d,tk,os] a t c u prog w
      wp_walk using hri
      exact#[_,rfl,by simpa using hR]
  case fin=>
   rintro⟨b1,b2⟩ s' ⟨hb',rfl,vs,ws,ns',ms',hz,hvi,hwi,aJ,hR⟩;simp only at hb';subst hb';have hv:lexLt ns' ms'=decide (items.size<items2.size):=by
    cases hvi with
    |nil=>
     cases hwi with
     |nil=>simp only[wS]at aJ;rw[rJ];exact (mN ⋯).symm
     |cons c u hw=>simp only[wS,hV]at aJ;rw[oN];exact (i5 ⋯).symm
    |cons a t hv=>
     cases hwi with
     |nil=>simp only[wS,hV]at aJ;rw[oO];exact (mN ⋯).symm
     |cons c u hw=>rw[w8]at hz;cases hz
   rw[hv]at hR
   wp_walk
   exact#[_,rfl,by simpa [Builtin.Tuple.tupleCompareSizes]using hR]
  case h=>exact#[rfl,rfl,items.toList,items2.toList,ns,ms,rfl,hi,hj,by lia,h]
end
section
variable{prog:Program}{w:World}{A:Around}{E:Value->Shared->Prop}{s:Shared}
theorem oV(hl:IsTup s.heap l items)(hb:IsTup s.heap b items2)(hi:IntsAre items.toList ns)(hj:IntsAre items2.toList ms)
  (hu:A.units<cLine) (h:Q (.bool (lexLt ns ms)) s):wpAny (model prog w) A (compareOp .Lt (.ref l) (.ref b)) Q E s:=by
 obtain⟨⟨cls,dd,data,sl⟩,ho,hc,n,hd⟩:=id hl;obtain⟨⟨U9,dd2,data2,sl2⟩,ho2,hc2,n2,hd2⟩:=id hb;subst hc hd hc2 hd2;exact richCompare_meets_room (op:=.Lt) #[_,ho,rfl] #[_,ho2,rfl] PySem.F.slot_tuple_lt PySem.F.entry_tuple_lt (PySem.F.args_tuple_lt_2 _ _) (rK l b items items2 n n2 dd dd2 sl sl2 ns ms hi hj)
  #[ho,ho2,show Value.bool (lexLt ns ms)≠Value.notImplemented/\Q (.bool (lexLt ns ms)) s from#[(λx=>nomatch x),h]] hu
theorem Oi(ht:IsTup s.heap t vs.toArray)(hb:IsTup s.heap b ws.toArray)(hv:vs≠[])
  (h1:ws=[]->Q (.ref t) s) (h2:ws≠[]->Q (.ref s⁻¹) { s with heap:=s.heap.push { cls:=.type "tuple",data:=.seq (vs++ws).toArray}})
  (Ny:vs.length+ws.length<=sizeLine):wpAny (model prog w) A (binaryOp .Add (.ref t) (.ref b)) Q E s:=by
 obtain⟨⟨cls,dd,data,sl⟩,ho,hc,n,hd⟩:=id ht;obtain⟨⟨U9,dd2,data2,sl2⟩,ho2,hc2,n2,hd2⟩:=id hb;subst hc hd hc2 hd2;have e:vs.toArray++ws.toArray=(vs++ws).toArray:=by simp
 by_cases hw:ws=[]
 .
  exact concat_meets #[_,ho,rfl] #[_,ho2,rfl] noFill_tuple_add seq_tuple_add BH BB (BA _ _)
   (tuple_addW1 t b vs.toArray ws.toArray n n2 dd dd2 sl sl2 (by simpa using hv) (by simp[hw])) #[ho,ho2,h1 hw]
 .
  refine concat_meets #[_,ho,rfl] #[_,ho2,rfl] noFill_tuple_add seq_tuple_add BH BB (BA _ _)
   (tuple_addW2 t b vs.toArray ws.toArray n n2 dd dd2 sl sl2 (by simpa using hv) (by simpa using hw) (by rw[d5];exact Ny)) #[ho,ho2,?_]
  rw[e];exact h2 hw
noncomputable def cH(n d:Nat):Option Int->Nat
 |none=>d
 |some v=>if v<0 then (v+(n:Int)).toNat else min v.toNat n
theorem v7(n d:Nat):cH n d none=d:=rfl
theorem Bs(n d k:Nat):cH n d (!(k:Int))=min k n:=by
 show (if (k:Int)<0 then ((k:Int)+(n:Int)).toNat else min (k:Int).toNat n)=min k n
 rw[eP ⋯,mE]
theorem Bt(v:Int)(n d:Nat):(if v<0 then max (v+(n:Int)) 0 else min v (n:Int))=((cH n d (!v):Nat):Int):=by
 show (if v<0 then max (v+(n:Int)) 0 else min v (n:Int))=(((if v<0 then (v+(n:Int)).toNat else min v.toNat n):Nat):Int)
 by_cases hv:v<0
 . simp only[eR hv];lia
 . simp only[eP hv];lia
theorem zc(lo hi:Option Int)(n:Nat):Builtin.Slice.sliceAdjust lo hi 1 (n:Int)=(((cH n 0 lo:Nat):Int),((cH n n hi:Nat):Int)):=by
 have h1 : ¬ ((1:Int)<0):=by lia
 unfold Builtin.Slice.sliceAdjust;refine Prod.ext ?_ ?_
 .
  cases lo with
  |none=>rfl
  |some v=>exact Bt v n 0
 .
  cases hi with
  |none=>rfl
  |some v=>exact Bt v n n
theorem zf(i j:Nat):Builtin.Slice.slicePlaces (i:Int) (j:Int) 1=j - i:=by
 unfold Builtin.Slice.slicePlaces;have h1:(1:Int) > 0:=by lia
 split <;> lia
theorem oW(p:IsPart v o)(h:Q o s):wpAny (model prog w) A (Builtin.Slice.slicePartIndex v) Q E s:=by
 cases p with
 |none=>exact slicePart_none h
 |int i t=>exact slicePart_int h
theorem gK{sl:Addr}{vl vu:Value}{lo hi:Option Int}{n:Nat}{Q:Int×Int×Nat->Shared->Prop}(hs:s.heap.IsSliceOf sl vl vu .none)(pl:IsPart vl lo)(pu:IsPart vu hi)
  (h:Q (((cH n 0 lo:Nat):Int),1,cH n n hi - cH n 0 lo) s):wpAny (model prog w) A (Builtin.Slice.sliceApplied (.ref sl) (pure (n:Int))) Q E s:=by
 obtain⟨os,hos,hcs,hds⟩:=id hs;refine aS (aS (BN hos hds rfl (aS (BN hos hds rfl (aS (BN hos hds rfl (dA ?_)))))));refine aS (slicePart_none ?_);refine aS (oW pl (aS (oW pu (aS (dA ?_)))));show wpAny _ _ (match Builtin.Slice.sliceAdjust lo hi 1 (n:Int)with | (lo,hi)=>pure (lo,(1:Int),Builtin.Slice.slicePlaces lo hi 1)) _ _ s
 rw[zc lo hi n];show wpAny _ _ (pure (((cH n 0 lo:Nat):Int),(1:Int),Builtin.Slice.slicePlaces ((cH n 0 lo:Nat):Int) ((cH n n hi:Nat):Int) 1)) _ _ s;rw[zf];exact dA h
theorem Ij(xs:Array Value)(i k:Nat):((List.range k).filterMap λ(m:Nat)=>xs[((i:Int)+(m:Int) * 1).toNat]?).toArray=((xs.toList.drop i).take k).toArray:=by
 have e:(λ(m:Nat)=>xs[((i:Int)+(m:Int) * 1).toNat]?)=λm=>xs[i+m]?:=by
  funext m
  have:((i:Int)+(m:Int) * 1).toNat=i+m:=by lia
  rw[this]
 rw[e];have:=pick_run xs i k;rw[List.filterMap_map]at this;have e2:((λx=>xs[x]?) ∘ λx=>i+x)=λm=>xs[i+m]?:=rfl
 rw[e2]at this;rw[this]
theorem kj{t sl:Addr}{items:Array Value}{vl vu:Value}{lo hi:Option Int}{Q:Value->Shared->Prop}(ht:IsTup s.heap t items)(hs:s.heap.IsSliceOf sl vl vu .none)(pl:IsPart vl lo)(pu:IsPart vu hi)
  (hw : ¬ (cH items.size 0 lo=0/\cH items.size items.size hi=items.size))
  (h:Q (.ref s⁻¹) { s with heap:=s.heap.push { cls:=.type "tuple",data:=.seq ((items.toList.drop (cH items.size 0 lo)).take (cH items.size items.size hi - cH items.size 0 lo)).toArray}})
  (Ny:items.size<=sizeLine):wpAny (model prog w) A (getItem (.ref t) (.ref sl)) Q E s:=by
 have Bu:sizeOk (.seq ((items.toList.drop (cH items.size 0 lo)).take (cH items.size items.size hi - cH items.size 0 lo)).toArray):=by show ((items.toList.drop (cH items.size 0 lo)).take (cH items.size items.size hi - cH items.size 0 lo)).toArray.size<=sizeLine;rw[d5,t9,List.length_drop,i9];lia
 obtain⟨os,hos,hcs,hds⟩:=id hs;have hTs:s.TypeIs (.ref sl) "slice" :=#[os,hos,hcs];unfold getItem
 try with_reducible refine l7 ?_
 first |refine aS (dA ?_) |skip
 refine aS (wpAny_sequenceKey ht.typeIs ⋯ ?_);refine aS (t7 ht.typeIs v0
  (o3 v0 ht.typeIs entry_tuple_getitem ?_ (args_tuple_getitem _ _)))
 show wpAny _ _ (Builtin.Tuple.tupleItemsOf (.ref t) >>= _) _ _ s;refine aS (tupleItemsOf_ ht ?_);refine aS (BY hTs ?_);refine aS (gK hs pl pu ?_);have hno : ¬ ((((cH items.size 0 lo:Nat):Int)==0&&(1:Int)==1&&(cH items.size items.size hi - cH items.size 0 lo)==items.size)=true):=by intro q;rw[eM,eM]at q;exact hw #[by lia,by lia]
 show wpAny _ _ (if (((cH items.size 0 lo:Nat):Int)==0&&(1:Int)==1&&(cH items.size items.size hi - cH items.size 0 lo)==items.size)=true then _ else _) _ _ s
 rw[eP hno,Ij]
 first
  |exact aS (nE (dA #[_,rfl,dA h]) Bu)
  |exact aS (nE (aS (dA (dA #[_,rfl,dA h]))) Bu)
  |exact aS (aS (nE (dA (dA #[_,rfl,dA h])) Bu))
  |exact aS (aS (nE (dA #[_,rfl,dA h]) Bu))
end
end HT
namespace L2
abbrev TO:=St->Hp->(Option Int->Hp->Prop)->Prop
def PO(X:Cx)(e:Option Expr)(t:TO):Prop:=
 ∀(ah: ~~~1) (s:Shared) (Y:St) (H:Hp) (Q:Option Int->Hp->Prop),Inv X ah Y H s->t Y H Q->
  wpAny (~~~2) X.A (evalPart e X.env) (λu s'=>∃o H',Inv X ah Y H' s'/\IsPart u o/\Q o H') X.xe s
def Oj:TO:=λ_ H Q=>Q none H
def aad(t:TE):TO:=λY H Q=>t Y H λx H1=>∃i,x=.int i/\Q (!i) H1
theorem intsAre_of:∀{us:List Value},Vals (ns.map V.int) us->IntsAre us ns:=by
 induction ns with
 |nil=>intro us r;rw[List.map_nil]at r;cases r;exact .nil
 |cons n ns ih=>
  intro us r;cases r with
  |cons r1 r2=>obtain⟨t,e⟩:=r1;subst e;exact .cons n t (ih r2)
section
variable{X:Cx}{e:Expr}{te:TE}{lo hi:Option Expr}{tl th:TO}{pos p2:Pos}
theorem Ol:PO X none Oj:=by intro ah s Y H Q I h;exact dA #[none,H,I,.none,h]
theorem Om(h:PE X e te):PO X (!e) (aad te):=by intro ah s Y H Q I hw;refine cF (h ah s Y H _ I hw) ?_;rintro u s1 ⟨x,H1,I1,r1,q1⟩;obtain⟨i,rfl,q⟩:=q1;obtain⟨t,rfl⟩:=r1;exact#[!i,H1,I1,.int i t,q]
def SlR(X:Cx)(r:V->Option Int->Option Int->Hp->VK->Prop):Prop:=
 ∀(ah: ~~~1) (s:Shared) (Y:St) (H:Hp) (x:V) (v vl vu:Value) (lo hi:Option Int) (sl:Addr) (Q:VK),Inv X ah Y H s->RelV x v->s.heap.IsSliceOf sl vl vu .none->IsPart vl lo->IsPart vu hi->r x lo hi H Q->
  ∃T id,typeLookup (.type T) "__getitem__"=pure (!(.builtin id))/\s.TypeIs v T/\wpAny (~~~2) X.A (getItem v (.ref sl)) (EP X ah Y Q) X.xe s
noncomputable def tSl(r:V->Option Int->Option Int->Hp->VK->Prop)(te:TE)(tl th:TO):TE:=λY H Q=>te Y H λx H1=>tl Y H1 λl H2=>th Y H2 λu H3=>r x l u H3 Q
theorem oX{r:V->Option Int->Option Int->Hp->VK->Prop}(hr:SlR X r)(he:PE X e te)(hl:PO X lo tl)(hu:PO X hi th):PE X (.Subscript e (.Slice lo hi none p2) pos) (tSl r te tl th):=by
 intro ah s Y H Q I h;refine Subscript_ (cF (he ah s Y H _ I h) ?_);rintro v s1 ⟨x,H1,I1,r1,q1⟩;refine wpAny_Slice (cF (hl ah s1 Y H1 _ I1 q1) λvl s2 #[l,H2,I2,pl,q2]=>cF (hu ah s2 Y H2 _ I2 q2) ?_)
 rintro vu s3 ⟨u,H3,I3,pu,q3⟩;refine dA ?_;have I4:Inv X ah Y H3 { s3 with heap:=s3.heap.push { cls:=.type "slice",data:=.fields ([vl,vu,.none].toArray)}}:=I3.kept λb ob q=>dC _ q
 obtain⟨T,id,hT,ht,hg⟩:=hr ah { s3 with heap:=s3.heap.push { cls:=.type "slice",data:=.fields ([vl,vu,.none].toArray)}} Y H3 x v vl vu l u s3⁻¹ Q I4 r1 (Heap.IsSliceOf.new ..) pl pu q3;exact tail_any ht hT hg (by with_unfolding_all rfl)
def zg(xs:List V)(lo hi:Option Int):List V:=(xs.drop (HT.cH xs.length 0 lo)).take (HT.cH xs.length xs.length hi - HT.cH xs.length 0 lo)
theorem mR(xs:List V)(lo hi:Option Int):(zg xs lo hi).length<=xs.length:=by unfold zg;rw[t9,List.length_drop];lia
def rSlT(K:Frag):V->Option Int->Option Int->Hp->VK->Prop:=λx lo hi H Q=>∃a xs,x=.ref a/\iO K H a xs/\
 ¬ (HT.cH xs.length 0 lo=0/\HT.cH xs.length xs.length hi=xs.length)/\∀p,H p=none->Q (.ref p) (upd H p (.tup (zg xs lo hi)))
theorem Va:SlR X (rSlT X.K):=by
 intro ah s Y H x v vl vu lo hi sl Q I rx hs pl pu h;obtain⟨a,xs,rfl,hx,hw,q⟩:=h;cases rx;obtain⟨its,r,ht,hz⟩:=I.tuple hx;have aJ:its.toArray.size=xs.length:=by rw[d5];exact r.length.symm
 refine#["tuple",_,PyProof.Rows.slot_tuple_getitem.lookup,ht.typeIs,?_];refine HT.kj ht hs pl pu (by rw[aJ];exact hw) ?_ (by rw[aJ];exact hz)
 rw[aJ];refine#[.ref s⁻¹,_,I.laid (λb ob q=>dC _ q) (eD _) ?_,rfl,q _ (I.hok.fresh (eD _))]
 exact#[l4 (mR xs lo hi) hz,_,(r.drop (HT.cH xs.length 0 lo)).take (HT.cH xs.length xs.length hi - HT.cH xs.length 0 lo),iz.new _ _]
def rLtT(K:Frag):R2:=λx y H Q=>∃a b ns ms,x=.ref a/\y=.ref b/\iO K H a (ns.map V.int)/\iO K H b (ms.map V.int)/\Q (.bl (HT.lexLt ns ms)) H
theorem Vb(hu:X.A.units<cLine):lB X (compareOp .Lt) (rLtT X.K):=by intro ah s Y H x y v u Q I rx ry h;obtain⟨a,b,ns,ms,rfl,rfl,ha,hb,q⟩:=h;cases rx;cases ry;obtain⟨its,r1,p1,_⟩:=I.tuple ha;obtain⟨sf,r2,p2,_⟩:=I.tuple hb;have i1:=intsAre_of r1;have i2:=intsAre_of r2;exact HT.oV p1 p2 i1 i2 hu #[.bl (HT.lexLt ns ms),H,I,rfl,q]
def aae(K:Frag):R2:=λx y H Q=>∃a b xs ys,x=.ref a/\y=.ref b/\iO K H a xs/\iO K H b ys/\xs≠[]/\xs.length+ys.length<=sizeLine/\
 (ys=[]->Q (.ref a) H)/\(ys≠[]->∀p,H p=none->Q (.ref p) (upd H p (.tup (xs++ys))))
theorem Vals.uA(r:Vals xs us):us=[] ↔ xs=[]:=by
 cases r with
 |nil=>simp
 |cons _ _=>simp
theorem Oo:lB X (binaryOp .Add) (aae X.K):=by
 intro ah s Y H x y v u Q I rx ry h;obtain⟨a,b,xs,ys,rfl,rfl,ha,hb,hx,hz,q1,q2⟩:=h;cases rx;cases ry;obtain⟨its,r1,p1,_⟩:=I.tuple ha;obtain⟨sf,r2,p2,_⟩:=I.tuple hb;refine HT.Oi p1 p2 (λz=>hx (r1.uA.mp z)) (λz=>#[.ref a,H,I,rfl,q1 (r2.uA.mp z)]) (λz=>?_) (by rw[<- r1.length,<- r2.length];exact hz)
 refine#[.ref s⁻¹,_,I.laid (λb ob q=>dC _ q) (eD _) ?_,rfl,q2 (λw=>z (r2.uA.mpr w)) _ (I.hok.fresh (eD _))]
 exact#[by rw[fA];exact hz,_,r1.append r2,iz.new _ _]
end
noncomputable def rL(n:Nat)(i:Int):Option Nat:=if 0<=i then (if i<n then some i.toNat else none)else if -(n:Int)<=i then some (i+n).toNat else none
def fS{α:Type}(xs:List α)(i:Int):Option α:=(rL xs.length i).bind λj=>xs[j]?
theorem uB(h:rL n i=!j):seqIndex? i n=!j/\j<n/\-(n:Int)<=i/\i<n:=by
 unfold rL at h;by_cases h0:0<=i
 .
  rw[eR h0]at h;by_cases h1:i<n
  . rw[eR h1]at h;have e:=l5 h;exact#[by rw[seqIndex_of h0 h1,e],by lia,by lia,h1]
  . rw[eP h1]at h;symm
 .
  rw[eP h0]at h;by_cases h1 : -(n:Int)<=i
  . rw[eR h1]at h;have e:=l5 h;exact#[by rw[seqIndex_neg ⋯ h1,e],by lia,h1,by lia]
  . rw[eP h1]at h;symm
theorem Bv{α:Type}{xs:List α}{i:Int}{v:α}(h:fS xs i=!v):∃j,seqIndex? i xs.length=!j/\xs[j]?=!v/\j<xs.length/\-(xs.length:Int)<=i/\i<xs.length:=by
 unfold fS at h;cases e:rL xs.length i with
 |none=>rw[e]at h;symm
 |some j=>rw[e]at h;obtain⟨h1,h2,h3,h4⟩:=uB e;exact#[j,h1,h,h2,h3,h4]
def uC(b:Expr):Prop:=∀o i,subscripted b false o i=operate [o,i] (getItem o i)
def IxR(X:Cx)(r:R2):Prop:=
 ∀(value slice:Expr) (ah: ~~~1) (s:Shared) (Y:St) (H:Hp) (x y:V) (v u:Value) (Q:VK),Inv X ah Y H s->RelV x v->RelV y u->r x y H Q->
  subscripted slice false v u=operate [v,u] (getItem v u)->wpAny (~~~2) X.A (subscriptTail value slice v u) (EP X ah Y Q) X.xe s
def MtR(X:Cx)(id:String)(r:V->List V->Hp->VK->Prop):Prop:=
 ∀(ah: ~~~1) (s:Shared) (Y:St) (H:Hp) (x:V) (xs:List V) (v:Value) (us:List Value) (Q:VK),Inv X ah Y H s->RelV x v->Vals xs us->r x xs H Q->
  wpAny (~~~2) X.A (call (.builtin id) (v::us)) (EP X ah Y Q) X.xe s
section
variable{X:Cx}{a b:Expr}{ta tb:TE}{pos:Pos}
theorem S3{r:R2}(hr:IxR X r)(ha:PE X a ta)(hb:PE X b tb)(hs:uC b):PE X (.Subscript a b pos) (tOp r ta tb):=by intro ah s Y H Q I h;exact Subscript_ (UL ha hb I h λv u s2 x y H2 I2 rx ry q=>hr a b ah s2 Y H2 x y v u Q I2 rx ry q (hs _ _))
def rIxL(K:Frag):R2:=λx y H Q=>∃p xs i v,x=.ref p/\y=.int i/\cZ K H p xs/\fS xs i=!v/\Q v H
def rIxT(K:Frag):R2:=λx y H Q=>∃p xs i v,x=.ref p/\y=.int i/\iO K H p xs/\fS xs i=!v/\Q v H
theorem uD:IxR X (rIxL X.K):=by
 intro value slice ah s Y H x y v u Q I rx ry h hs;obtain⟨p,xs,i,z,rfl,rfl,hq,he,q⟩:=h;cases rx;obtain⟨t,rfl⟩:=ry;obtain⟨its,r,pl,hz⟩:=I.list hq;obtain⟨j,h1,h2,h3,h4,h5⟩:=Bv he;obtain⟨w,ew,rw'⟩:=r.get h2;have hl:=r.length;have hn:=zb;have fin:EP X ah Y Q w s:=#[z,H,I,rw',q];by_cases h0:0<=i
 .
  have hj:i.toNat=j:=by rw[seqIndex_of h0 h5]at h1;exact l5 h1
  exact item_listR pl.isList h0 ⋯ (by rw[hj];simpa using ew) fin hs
 .
  have hj:(i+(its.toArray.size:Int)).toNat=j:=by rw[seqIndex_neg ⋯ h4]at h1;rw[d5,<- hl];exact l5 h1
  exact subscriptTail_builtinR pl.isList.typeIs slot_list_getitem.lookup
   (wpAny_getItem_list_neg pl.isList ⋯ (by rw[d5] <;> lia) ⋯ (by rw[hj];simpa using ew) #[rfl,fin]) hs
theorem Vc:IxR X (rIxT X.K):=by
 intro value slice ah s Y H x y v u Q I rx ry h hs;obtain⟨p,xs,i,z,rfl,rfl,hq,he,q⟩:=h;cases rx;obtain⟨t,rfl⟩:=ry;obtain⟨its,r,pl,hz⟩:=I.tuple hq;obtain⟨j,h1,h2,h3,h4,h5⟩:=Bv he;obtain⟨w,ew,rw'⟩:=r.get h2;have hl:=r.length;have hn:=zb;have fin:EP X ah Y Q w s:=#[z,H,I,rw',q];exact subscriptTail_builtinR pl.typeIs slot_tuple_getitem.lookup
  (getItem_tuple pl ⋯ ⋯ (by rw[d5,<- hl];exact h1) (by simpa using ew) #[rfl,fin]) hs
theorem zh(its:List Value)(n j:Nat)(u:Value):Obj.mapSeq (·.setIfInBounds j u) { cls:=.type "list",data:=.seq its.toArray n}={ cls:=.type "list",data:=.seq (its.set j u).toArray n}:=by simp[Obj.mapSeq]
theorem Inv.lst{ah: ~~~1}{Y:St}{H:Hp}{s:Shared}{p:Addr}{xs:List V}(I: ~~~7)(h:H p=!(.lst xs)) :
  ∃(its:List Value) (n:Nat),Vals xs its/\s.heap.get? p=some { cls:=.type "list",data:=.seq its.toArray n}/\xs.length<=sizeLine:=by
 obtain⟨z,its,n,r,e⟩:=I.hok p _ h;exact#[its,n,r,e,z]
theorem Inv.Vd{ah: ~~~1}{Y:St}{H:Hp}{s:Shared}{p:Addr}{xs ys:List V}{its its':List Value}{n n':Nat}{f:Obj->Obj}(I: ~~~7)(h:H p=!(.lst xs))
  (ho:s.heap.get? p=some { cls:=.type "list",data:=.seq its.toArray n}) (hf:f { cls:=.type "list",data:=.seq its.toArray n}={ cls:=.type "list",data:=.seq its'.toArray n'}) (r:Vals ys its') (hz:ys.length<=sizeLine) (t:Nat) :
  Inv X ah Y (upd H p (.lst ys)) { s with heap:=s.heap.update p f,toks:=t}:=by
 have e:(s.heap.update p f).get? p=some { cls:=.type "list",data:=.seq its'.toArray n'}:=by rw[n4 f ho (by rw[hf] <;> rfl),hf]
 refine I.write (by rw[h];trivial) (.inl rfl) (λb u hb q=>(mM _ _ (wP hb)).trans q) #[_,e] ?_
 exact#[hz,its',n',r,e]
def aaf:V->V->V->Hp->(Hp->Prop)->Prop:=λo i v H Q=>∃p xs k j,o=.ref p/\i=.int k/\H p=!(.lst xs)/\rL xs.length k=!j/\Q (upd H p (.lst (xs.set j v)))
theorem set_list:ZP X aaf:=by
 intro ah s Y H o i v ov iv u Q I ro ri rv h;obtain⟨p,xs,k,j,rfl,rfl,hp,hj,q⟩:=h;cases ro;obtain⟨t,rfl⟩:=ri;obtain⟨its,n,r,ho,hz⟩:=I.lst hp;obtain⟨h1,h2,h3,h4⟩:=uB hj;have hl:=r.length;have hn:=zb;have I':=
  I.Vd hp ho (zh its n j u) (r.set rv j) (by rw[l8];exact hz) s.toks
 by_cases h0:0<=k
 .
  have hk:k.toNat=j:=by rw[seqIndex_of h0 h4]at h1;exact l5 h1
  exact PySem.W.ki_setAt ho h0 ⋯ (by rw[d5,<- hl];exact h4) (by rw[hk];exact#[_,I',q])
 .
  have hk:(k+(its.toArray.size:Int)).toNat=j:=by rw[seqIndex_neg ⋯ h3]at h1;rw[d5,<- hl];exact l5 h1
  exact PySem.W.ki_setBack ho ⋯ (by rw[d5,<- hl];exact h3) ⋯ (by rw[hk];exact#[_,I',q])
theorem uE(lo hi:Option Int)(n:Nat):(sliceBounds lo hi none n).1=((HT.cH n 0 lo:Nat):Int)/\(sliceBounds lo hi none n).2.1=((HT.cH n n hi:Nat):Int)/\(sliceBounds lo hi none n).2.2=1:=by
 refine#[?_,?_,rfl]
 .
  cases lo with
  |none=>simp[sliceBounds,HT.cH]
  |some i=>
   simp only[sliceBounds,HT.cH,Option.getD_none];by_cases h:i<0
   . simp only[h] <;> lia
   . simp only[h] <;> lia
 .
  cases hi with
  |none=>simp[sliceBounds,HT.cH]
  |some i=>
   simp only[sliceBounds,HT.cH,Option.getD_none];by_cases h:i<0
   . simp only[h] <;> lia
   . simp only[h] <;> lia
theorem rM(its:List Value)(lo hi:Option Int):slicePick its.toArray lo hi none=((its.drop (HT.cH its.length 0 lo)).take (HT.cH its.length its.length hi - HT.cH its.length 0 lo)).toArray:=by obtain⟨h1,h2,h3⟩:=uE lo hi its.toArray.size;unfold slicePick;rw[h1,h2,h3];simp only[sliceRange_one,pick_run] <;> rfl
def rSlL(K:Frag):V->Option Int->Option Int->Hp->VK->Prop:=λx lo hi H Q=>∃a xs,x=.ref a/\cZ K H a xs/\∀p,H p=none->Q (.ref p) (upd H p (.lst (zg xs lo hi)))
theorem Bw:SlR X (rSlL X.K):=by
 intro ah s Y H x v vl vu lo hi sl Q I rx hs pl pu h;obtain⟨a,xs,rfl,hx,q⟩:=h;cases rx;obtain⟨its,r,ht,hz⟩:=I.list hx;have aJ:=r.length;refine#["list",_,slot_list_getitem.lookup,ht.isList.typeIs,?_];refine wpAny_getItem_list_slice ht.isList hs pl pu .none ⋯ ?_ (by rw[d5] <;> lia)
 rw[rM,<- aJ];refine#[.ref s⁻¹,_,I.laid (λb ob q=>dC _ q) (eD _) ?_,rfl,q _ (I.hok.fresh (eD _))]
 exact#[l4 (mR xs lo hi) hz,_,0,(r.drop (HT.cH xs.length 0 lo)).take (HT.cH xs.length xs.length hi - HT.cH xs.length 0 lo),eQ _ rfl]
theorem uF:eF X (.type "list") (λxs H Q=>∃p ys,xs=[.ref p]/\(cZ X.K H p ys\/iO X.K H p ys)/\∀l,H l=none->Q (.ref l) (upd H l (.lst ys))):=by
 intro ah s Y H xs us Q I r h;obtain⟨p,ys,rfl,hq,q⟩:=h;obtain⟨u,rfl,rx⟩:=vals1 r;cases rx;have fin:∀(its:List Value),Vals ys its->ys.length<=sizeLine->∀(h':Heap) (c':Nat),(∀b o',s.heap.get? b=!o'->h'.get? b=!o')->
   h'.get? s⁻¹=some { cls:=.type "list",dict:=none,data:=.seq its.toArray c',slots:=([].toArray)}->EP X ah Y Q (.ref s⁻¹) { s with heap:=h'}:=λits r' hz h' c' kp e=>
  #[.ref s⁻¹,_,I.laid kp (eD _) (show eE X.prog X.w _ h' _ (.lst ys)from#[hz,its,c',r',e]),rfl,q _ (I.hok.fresh (eD _))]
 rcases hq with hq |hq
 . obtain⟨its,r',pl,hz⟩:=I.list hq;have aJ:=r'.length;obtain⟨o,ho,hc,n,hd⟩:=pl.isList;exact call_list_seq p (.inl rfl) ho hc hd (λh' c' kp e=>fin its r' hz h' c' kp e) (by simp only[d5] <;> lia)
 . obtain⟨its,r',pl,hz⟩:=I.tuple hq;have aJ:=r'.length;obtain⟨o,ho,hc,n,hd⟩:=pl;exact call_list_seq p (.inr rfl) ho hc hd (λh' c' kp e=>fin its r' hz h' c' kp e) (by simp only[d5] <;> lia)
theorem rN:eF X (.type "tuple") (λxs H Q=>∃p ys,xs=[.ref p]/\((cZ X.K H p ys/\∀l,H l=none->Q (.ref l) (upd H l (.tup ys)))\/(iO X.K H p ys/\Q (.ref p) H))):=by
 intro ah s Y H xs us Q I r h;obtain⟨p,ys,rfl,h⟩:=h;obtain⟨u,rfl,rx⟩:=vals1 r;cases rx;rcases h with ⟨hq,q⟩ |⟨hq,q⟩
 .
  obtain⟨its,r',pl,hz⟩:=I.list hq;have aJ:=r'.length;refine call_tuple_list pl.isList (λh' kp=>?_) (by simp only[d5] <;> lia)
  have I1:=I.kept (t':=s.toks) kp;have I2:=
   I1.laid (t':=s.toks) (λb o e=>dC _ e) (eD _) (show eE X.prog X.w _ _ _ (.tup ys)from#[hz,its,r',iz.new _ _])
  exact#[.ref h'.objs.size,_,I2,rfl,q _ (I1.hok.fresh (eD _))]
 . obtain⟨its,r',pl,hz⟩:=I.tuple hq;exact call_tuple_same pl #[.ref p,H,I,rfl,q]
def tyV(K:Frag)(T:String)(x:V)(H:Hp):Prop:=match x with
 |.str _=>T = "str"
 |.int _=>T = "int"
 |.ref p=>(T = "list" /\∃xs,cZ K H p xs)\/(T = "tuple" /\∃o,K.lookup p=!o/\o.cls=.type "tuple" /\o.dict=none)\/
   (T = "dict" /\((∃mQ,H p=!(.dK mQ))\/∃mQ,H p=!(.dT mQ)))\/∃φ,H p=!(.set φ)/\∀o,φ o->o.cls=.type T/\o.dict=none
 |_=>False
theorem Ve{ah: ~~~1}{Y:St}{H:Hp}{s:Shared}{T:String}{x:V}{v:Value}(I: ~~~7)(r:RelV x v)(ty:tyV X.K T x H) :
  s.TypeIs v T/\∀a,v=.ref a->∃ob,s.heap.get? a=!ob/\ob.dict=none:=by
 cases x with
 |str z=>
  obtain⟨t,rfl⟩:=r;cases (show T = "str" from ty)
  exact#[typeIs_str s z t,λ_ e=>nomatch e]
 |int i=>
  obtain⟨t,rfl⟩:=r;cases (show T = "int" from ty)
  exact#[typeIs_int s i t,λ_ e=>nomatch e]
 |ref p=>
  cases r;rcases ty with ⟨rfl,xs,hq⟩ |⟨rfl,o,hk,hc,hd⟩ |⟨rfl,hk⟩ |⟨φ,hk,hf⟩
  .
   obtain⟨its,_,pl,_⟩:=I.list hq;refine#[pl.isList.typeIs,λa e=>?_]
   cases e;obtain⟨o,n,e,c,hd,_⟩:=pl;exact#[o,e,hd]
  .
   refine#[#[o,I.yS p o hk,hc],λa e=>?_]
   cases e;exact#[o,I.yS _ o hk,hd]
  .
   have z:∃o,s.heap.get? p=!o/\o.ExactDict:=by
    rcases hk with ⟨mQ,hk⟩ |⟨mQ,hk⟩
    . obtain⟨_,_,_,_,o,_,_,e,ex,_⟩:=I.hok p _ hk;exact#[o,e,ex]
    . obtain⟨_,_,_,_,o,_,_,e,ex,_⟩:=I.hok p _ hk;exact#[o,e,ex]
   obtain⟨o,e,ex⟩:=z;refine#[#[o,e,ex.1],λa e2=>?_]
   cases e2;exact#[o,e,ex.2.1]
  .
   obtain⟨o,e,ex⟩:=I.hok p _ hk;refine#[#[o,e,(hf o ex).1],λa e2=>?_]
   cases e2;exact#[o,e,(hf o ex).2]
 |_=>exact False.elim ty
def tBM(K:Frag)(T:String)(r:V->List V->Hp->VK->Prop)(to:TE)(t:TA):TE:=λY H Q=>to Y H λx H1=>tyV K T x H1/\t Y H1 λxs H2=>r x xs H2 Q
variable{o e:Expr}{es:List Expr}{to:TE}{t:TA}{name:Str}{nW j7:Pos}{T id:String}{r:V->List V->Hp->VK->Prop}
theorem Bx(pa:PlainAttrs T)(slot:Slot T name id)(hty:typeOf (.builtin id)=pure (.type "method_descriptor"))(hm:MtR X id r)(ho:PE X o to)(ha:PA X (e::es) t)
  (hbase:attributeBase o name X.env (eval o X.env)=eval o X.env:=by rfl)
  (hfew:((backTo j7 (starEach (e::es) X.env)).all (λx=>(not x.1))&&(backToKw j7 (keywordEach [] X.env)).all (λx=>x.1.isSome)
   && decide ((e::es).length+([]:List Keyword).length+(if ([]:List Keyword).isEmpty then 0 else 1)<30))=true:=by rfl)
  (hline:(nW.endLine==j7.line)=true:=by rfl) (hs:starEach (e::es) X.env=(false,eval e X.env)::starEach es X.env:=by rfl) (hplain:(backTo j7 (starEach es X.env)).any (·.1)=false:=by rfl) :
  PE X (.Call (.Attribute o name nW) (e::es) [] j7) (tBM X.K T r to t):=by
 intro ah s Y H Q I h;refine wpAny_Call_method_late hbase hfew hline rfl (cF (ho ah s Y H _ I h) ?_);rintro v s1 ⟨x,H1,I1,r1,ty,q1⟩;obtain⟨h1,h2⟩:=Ve I1 r1 ty;refine#[T,id,pa,slot,hty,h1,h2,?_];have hA:=ha j7 ah s1 Y H1 _ I1 q1;rw[hs]at hA ⊢
 refine Calls.callWith_builtin (by show (false||(backTo j7 (starEach es X.env)).any (·.1))=false;rw[hplain] <;> rfl) (Calls.evalArgs_plain ?_)
 exact cF hA (by rintro us s2 ⟨vs,H2,I2,r2,q2⟩;exact hm ah s2 Y H2 x vs v us Q I2 r1 r2 q2)
/- xs.append(e),list.index on a module's tuple .. are MtR facts of 06m -/
end
def MtM(X:Cx)(id:String)(r:V->List V->Hp->VK->Prop):Prop:=
 ∀(ah: ~~~1) (s:Shared) (Y:St) (H:Hp) (x:V) (xs:List V) (v:Value) (us:List Value) (Q:VK),Inv X ah Y H s->RelV x v->Vals xs us->r x xs H Q->
  wpAny (~~~2) X.A (call (.builtin id) (v::us)) (EP X ah Y Q) X.xe s
theorem Vals.one:∀{x:V}{us:List Value},Vals [x] us->∃u,us=[u]/\RelV x u:=by intro x us h;cases h with |cons r t=>cases t;exact#[_,rfl,r]
theorem Vals.eraseIdx:∀{xs:List V}{us:List Value} (i:Nat),Vals xs us->Vals (xs.eraseIdx i) (us.eraseIdx i)
 |_,_,_,.nil=>.nil
 |_,_,0,.cons _ t=>t
 |_,_,i+1,.cons r t=>.cons r (Vals.eraseIdx i t)
theorem Vals.rep(h:Vals xs us):∀k:Nat,Vals (List.replicate k xs).flatten (List.replicate k us).flatten
 | 0=>.nil
 |k+1=>by
  exact Vals.append h (Vals.rep h k)
theorem sF{α:Type}:∀(l:List α) (i:Nat),(l.eraseIdx i).length<=l.length
 | [],_=>eD _
 |_::_,0=>y4 _
 |_::r,i+1=>Nat.succ_le_succ (sF r i)
theorem foldl_rep(its:List Value):∀(k:Nat) (acc:List Value),
  List.foldl (λx1 x2=>x1++x2) acc.toArray (List.replicate k its.toArray)=(acc++(List.replicate k its).flatten).toArray
 | 0,acc=>by simp
 |k+1,acc=>by
  have e:acc.toArray++its.toArray=(acc++its).toArray:=by simp
  have e2:(acc++its)++(List.replicate k its).flatten=acc++(List.replicate (k+1) its).flatten:=by rw[y6,List.flatten_cons,rV]
  rw[<- e2,<- foldl_rep its k (acc++its),<- e,y6,List.foldl_cons]
section
variable{X:Cx}{ah: ~~~1}{Y:St}{H:Hp}{s:Shared}{l b:Addr}{xs ys zs:List V}
theorem Inv.Vf{its its':List Value}{n:Nat}{f:Array Value->Array Value}{t':Nat}(I: ~~~7)(hH:H l=!(.lst xs))
  (e:s.heap.get? l=some { cls:=.type "list",data:=.seq its.toArray n}) (hf:f its.toArray=its'.toArray) (hv:Vals ys its') (hz:ys.length<=sizeLine) :
  Inv X ah Y (upd H l (.lst ys)) { s with heap:=s.heap.update l (Obj.mapSeq f),toks:=t'}:=by
 have q:=PySem.IsL.update e f;rw[hf]at q;refine I.write (by rw[hH];exact trivial) (.inl rfl) (λb' u hb hu=>(mM s.heap (Obj.mapSeq f) (wP hb)).trans hu) #[_,q] ?_
 exact#[hz,its',_,hv,q]
theorem Inv.aag(I: ~~~7)(hv:Vals ys its)(hz:ys.length<=sizeLine) :
  Inv X ah Y (upd H s⁻¹ (.lst ys)) { s with heap:=s.heap.push { cls:=.type "list",data:=.seq its.toArray},toks:=t'}:=
 I.laid (λ_ _ q=>dC _ q) (eD _) #[hz,its,0,hv,eQ _ rfl]
theorem Inv.fresh(I: ~~~7):H s⁻¹=none:=I.hok.fresh (eD _)
theorem Inv.zj(I: ~~~7)(hH:H l=!(.lst xs)):xs.length<=sizeLine/\∃(its:List Value) (n:Nat),Vals xs its/\xs.length=its.length/\s.heap.get? l=some { cls:=.type "list",data:=.seq its.toArray n}:=by obtain⟨z,its,n,r,e⟩:=I.hok l _ hH;exact#[z,its,n,r,r.length,e]
theorem v8(h:n<=sizeLine):Builtin.List.listTooLong n=false:=by exact mN ⋯
end
section
variable{X:Cx}
def Oq:V->List V->Hp->VK->Prop:=λx vs H Q=>∃l xs y,x=.ref l/\vs=[y]/\H l=!(.lst xs)/\xs.length<sizeLine/\Q .non (upd H l (.lst (xs++[y])))
theorem lD:MtM X "list.append" Oq:=by
 intro ah s Y H x vs v us Q I rx rv h;obtain⟨l,xs,y,rfl,rfl,hH,hz,q⟩:=h;cases rx;obtain⟨u,rfl,ru⟩:=rv.one;obtain⟨z,its,n,r,hl,e⟩:=I.zj hH;refine call_meets F.slot_list_append #[_,e,rfl] F.entry_list_append (F.args_list_append_2 _ _) (PySem.list_append l its.toArray n u (by rw[d5];lia)) #[e,?_]
 refine#[.non,_,I.Vf hH e ⋯ (r.append (.cons ru .nil)) ?_,rfl,q];rw[fA,tJ];lia
def Ot:V->List V->Hp->VK->Prop:=λx vs H Q=>∃l b xs zs,x=.ref l/\vs=[.ref b]/\H l=!(.lst xs)/\H b=!(.lst zs)/\xs.length+zs.length<=sizeLine/\Q .non (upd H l (.lst (xs++zs)))
theorem Ei:MtM X "list.extend" Ot:=by
 intro ah s Y H x vs v us Q I rx rv h;obtain⟨l,b,xs,zs,rfl,rfl,hH,hB,hz,q⟩:=h;cases rx;obtain⟨u,rfl,ru⟩:=rv.one;cases ru;obtain⟨z,its,n,r,hl,e⟩:=I.zj hH;obtain⟨z2,sf,n2,r2,hl2,e2⟩:=I.zj hB;have Ny:its.toArray.size+sf.toArray.size<=sizeLine:=by rw[d5,d5];lia
 have Ik : ¬ ((not its.toArray.isEmpty)&&Builtin.List.listTooLong (its.toArray.size+sf.toArray.size))=true:=by rw[v8 Ny,yB];exact t6
 refine call_meets F.slot_list_extend #[_,e,rfl] F.entry_list_extend (F.args_list_extend_2 _ _)
  (AutoSeq1.list_extend_list_list_0 l its.toArray n b sf.toArray n2 Ik (by rw[d5];lia) ⋯) #[e,e2,?_]
 refine#[.non,_,I.Vf hH e ⋯ (r.append r2) ?_,rfl,q];rw[fA];lia
def Vg:V->List V->Hp->VK->Prop:=λx vs H Q=>∃l xs i k y,x=.ref l/\vs=[.int i]/\H l=!(.lst xs)/\-(2 ^ 63)<=i/\i<2 ^ 63/\seqIndex? i xs.length=!k/\xs[k]?=!y/\Q y (upd H l (.lst (xs.eraseIdx k)))
theorem Il:MtM X "list.pop" Vg:=by
 intro ah s Y H x vs v us Q I rx rv h;obtain⟨l,xs,i,k,y,rfl,rfl,hH,h1,h2,hk,hy,q⟩:=h;cases rx;obtain⟨u,rfl,ru⟩:=rv.one;obtain⟨t,rfl⟩:=ru;obtain⟨z,its,n,r,hl,e⟩:=I.zj hH;obtain⟨w,hw,rw'⟩:=r.get hy;refine call_meets F.slot_list_pop #[_,e,rfl] F.entry_list_pop (F.args_list_pop_2 _ _)
  (MeetsSeq.list_pop_at l its.toArray n i t k w (fitsIndex_both h1 h2) (by rw[d5,<- hl];exact hk) (by rw[<- AA];exact hw) (by rw[d5];lia)) #[e,?_]
 refine#[y,_,I.Vf hH e ?_ (r.eraseIdx k) ?_,rw',q]
 . show its.toArray.eraseIdxIfInBounds k=(its.eraseIdx k).toArray;rw[List.eraseIdxIfInBounds_toArray]
 . have:=sF xs k;lia
def rCat:R2:=λx y H Q=>∃l b xs zs,x=.ref l/\y=.ref b/\H l=!(.lst xs)/\H b=!(.lst zs)/\xs.length+zs.length<=sizeLine/\∀p,H p=none->Q (.ref p) (upd H p (.lst (xs++zs)))
theorem Vh:lB X (binaryOp .Add) rCat:=by
 intro ah s Y H x y v u Q I rx ry h;obtain⟨l,b,xs,zs,rfl,rfl,hH,hB,hz,q⟩:=h;cases rx;cases ry;obtain⟨z,its,n,r,hl,e⟩:=I.zj hH;obtain⟨z2,sf,n2,r2,hl2,e2⟩:=I.zj hB;refine PySem.P.add_list e e2 ?_ (by rw[d5,d5];lia)
 have ea:its.toArray++sf.toArray=(its++sf).toArray:=by simp
 rw[ea];exact#[.ref _,_,I.aag (r.append r2) (by rw[fA];lia),rfl,q _ I.fresh]
def rRep:R2:=λx y H Q=>∃l k xs,x=.ref l/\y=.int k/\H l=!(.lst xs)/\-(2 ^ 63)<=k/\k<2 ^ 63/\xs.length * k.toNat<=sizeLine/\
 ∀p,H p=none->Q (.ref p) (upd H p (.lst (List.replicate k.toNat xs).flatten))
theorem len_rep{α:Type}(xs:List α)(k:Nat):(List.replicate k xs).flatten.length=k * xs.length:=by
 induction k with
 |zero=>simp
 |succ k ih=>rw[y6,List.flatten_cons,fA,ih,Nat.succ_mul,Nat.add_comm]
theorem Vi:lB X (binaryOp .Mult) rRep:=by
 intro ah s Y H x y v u Q I rx ry h;obtain⟨l,k,xs,rfl,rfl,hH,h1,h2,hz,q⟩:=h;cases rx;obtain⟨t,rfl⟩:=ry;obtain⟨z,its,n,r,hl,e⟩:=I.zj hH;have aJ:its.toArray.size * k.toNat<=sizeLine:=by rw[d5,<- hl];exact hz
 have hcap : ¬ its.toArray.size * k.toNat > (2 ^ 63 - 1) / 8:=by
  have:(sizeLine:Nat)<=(2 ^ 63 - 1) / 8:=by decide
  lia
 have hfit : ¬ ((not (Builtin.List.listFitsIndex k)))=true:=by rw[fitsIndex_both h1 h2];exact t6
 have Ik : ¬ Builtin.List.listTooLong (its.toArray.size * k.toNat)=true:=by rw[v8 aJ];exact t6
 have hnew:List.foldl (λx1 x2=>x1++x2) ([].toArray) (List.replicate (if its.toArray.isEmpty=true then 0 else k.toNat) its.toArray)=(List.replicate k.toNat its).flatten.toArray:=by
  have f0:∀m:Nat,List.foldl (λx1 x2=>x1++x2) ([].toArray) (List.replicate m its.toArray)=(List.replicate m its).flatten.toArray:=λm=>by
   have:=foldl_rep its m [];exact this
  rw[f0];cases its with
  |nil=>simp
  |cons a r'=>rw[eP ⋯]
 refine wpAny_binaryOp_repeat_ref ⋯ #[_,e,rfl] (λs'=>typeIs_int s' k t) noFill_list_mul F.fills_int_mul F.slot_int_rmul repeat_list F.slot_int_index.lookup
  (call_meets F.slot_int_rmul (typeIs_int s k t) F.entry_int_rmul (F.args_int_rmul_2 _ _) (int___rmul___int_list k t l its.toArray n)
   #[e,rfl,#[_,e,rfl],call_meets F.slot_list_mul #[_,e,rfl] F.entry_list_mul (F.args_list_mul_2 _ _) (AutoListH.list___mul___list_int_3 l its.toArray n k t hfit hcap Ik) #[e,?_]])
 rw[hnew];exact#[.ref _,_,I.aag (r.rep k.toNat) (by rw[len_rep,Nat.mul_comm];exact hz),rfl,q _ I.fresh]
end
end L2
namespace Att
open PySem PySem.W PySem.Calls PyProof.Rows
theorem nJ:∀(ns: ~~~0) (vs:List Value),WellAll P h vs (ns.map WData.int)->IntsAre vs ns:=by
 intro ns
 induction ns with
 |nil=>intro vs w;cases w;exact .nil
 |cons n ns ih=>
  intro vs w;cases w with
  |cons a b=>cases a;exact .cons _ _ (ih _ b)
theorem Ej{l:OpenLaw}{n:Nat}(hn:l.most=!n){P:Params}{h:Heap}{args:List WData}{vals:List Value}
  (hpre:l.row.toRowW.claim.pre args=true) (hwl:WellAll P h vals args) :
  ∃a vs ns,vals=[Value.ref a]/\args=[WData.list (ns.map WData.int)]/\h.get? a=some { cls:=.type "list",data:=.seq vs.toArray}/\IntsAre vs ns/\ns.length<=n:=by
 have hsh:=(pre_splitW hpre).1;have hc:l.pre.holds [] { args:=args}=true:=(pre_splitW hpre).2;obtain⟨d,r,rfl,h1,h2⟩:=hasAllW_cons hsh;obtain rfl:=hasAllW_nil h2;obtain⟨xs,rfl,h3⟩:=hasW_list h1;obtain⟨ns,rfl⟩:=items_int h3;have aJ:ns.length<=n:=by
  have h4:(WTm.not (.lt (.lit (.int (n:Int))) (.len (.arg 0)))).holds [] { args:=[.list (ns.map .int)]}=true:=by have h4:=(holds_andW hc).1;rw[hn]at h4;exact h4
  have h5:=condW_of h4 (w_not (w_lt w_lit (w_len_list (w_arg rfl))));refine Nat.le_of_not_lt λq=>?_
  first
   | (rw[i5 q']at h5;exact absurd h5 ⋯)
   | (simp at h5;lia)
 cases hwl with
 |cons w1 w2=>
  cases w2;cases w1 with
  |list ho hall=>exact#[_,_,ns,rfl,rfl,ho,nJ ns _ hall,aJ]
theorem Ek(l:OpenLaw)(args:List WData):l.row.toRowW.claim.post args (.bool true) args=true:=
 postW_of
  (show WShape.has [] (.bool true) .bool=true by first |rfl |decide |simp[WShape.arms])
  (show (WTm.eq .res (.lit (.bool true))).value [] { args:=args,res:=!(.bool true),after:=args}=!(.bool (true==true))from w_eq_bool (w_res rfl) w_lit) rfl
theorem v9{l:OpenLaw}{n:Nat}{q:Program}{loose:List Str}{XP:(Str->Option Value)->Heap->Prop}{YP:World->Heap->Prop}{d:DefRec}
  (hn:l.most=!n) (nX:d.params.defaults=[])
  (call:∀(w:World) (s₀ s₁:Shared) (mg mb:Str->Option Value) (fa:Addr) (o:Obj) (pm cd doc:Value) (a:Addr) (vs:List Value) (ns: ~~~0),
   Ground q loose [] XP w s₀ mg mb s₁.heap->YP w s₁.heap->
   s₁.heap.get? fa=!o->o.data=.func (docDef d.name d.params d.body d.scope pm cd doc)->s₁.heap.CodeRec cd d.name->mg d.name=!(.ref fa)->
   s₁.heap.get? a=some { cls:=.type "list",data:=.seq vs.toArray}->IntsAre vs ns->ns.length<=n->s₁.gens = ([].toArray)->
   codeAny (model l.prog w) callerA (.call (.ref fa) #[[.ref a],[]]) (λr s'=>r=.ok (.ret (.bool true))/\OldK s₁.heap s'.heap/\s'.os=s₁.os/\AllBare s'.gens) s₁) :
  WalkO q loose XP YP l.row.toRowW d [] (λf vs=>PySem.call f vs):=by
 intro w s₀ s₁ mg mb G qqq fa o pm cd doc dV kV ho hd ie hD hmg hg args vals as hpre hlay hrd hwl hlo;obtain rfl:dV=.none:=Dflts.none hD nX;obtain rfl:kV=.none:=Dflts.noKw hD;obtain⟨a,vs,ns,rfl,rfl,hobj,hints,aJ⟩:=Ej hn hpre hwl;refine enter_call (codeAny_mono (call w s₀ s₁ mg mb fa o pm cd doc a vs ns G qqq ho (fd_plain hd) ie hmg hobj hints aJ hg) λr s' hq=>?_)
 obtain⟨rfl,h2,h3,h4⟩:=hq;exact#[.inl #[.bool true,.bool true,[],rfl,λ_=>rfl,.bool true,Ek l _,λ_=>#[List.Pairwise.nil,λ_ hm=>(nomatch hm)]],h2,h3,h4]
end Att
namespace L2
theorem lE:∀{vs:List Value}{ns: ~~~0},IntsAre vs ns->Vals (ns.map V.int) vs:=by
 intro vs ns h
 induction h with
 |nil=>exact .nil
 |cons n t h ih=>exact .cons #[t,rfl] ih
abbrev KOf{K:Frag}{h:Heap}(_:K.In h):Frag:=K
abbrev NB:Ii:=λ_ _ _ _ _ _=>False
abbrev E0:XK:=λ_ _ _=>False
theorem aah:Passes NB X E0:=λ_ _ _ _ _ _ _ h=>h.elim
structure Fun(K:Frag)(x qual:Str)(st:Stmt)(f:Addr)(fd:FuncData):Prop where
 ex:∃(oc:Value) (od:Option Addr) (kV doc pm:Value) (an:Option Addr) (gj ct:Value) (osl:Array (Option Value)),
  fd=PySem.W.fnOf x qual (ji st) (bV st) (aR st) .none kV doc pm an gj ct/\K.lookup f=!#[oc,od,.func fd,osl]/\PySem.W.codeIn K gj qual=true
 kp:PySem.W.keepIn K (.ref f)=true
section
variable{P:Program}{w:World}{K:Frag}{mg:Str->Option Value}{base:Heap}
theorem Vj{x qual:Str}{st:Stmt}{f:Addr}{oc:Value}{od an:Option Addr}{osl:Array (Option Value)}{kV doc pm gj ct:Value}(l:K.lookup f=!#[oc,od,.func (PySem.W.fnOf x qual (ji st) (bV st) (aR st) .none kV doc pm an gj ct),osl])
  (c:PySem.W.codeIn K gj qual=true) (k:PySem.W.keepIn K (.ref f)=true):Fun K x qual st f (PySem.W.fnOf x qual (ji st) (bV st) (aR st) .none kV doc pm an gj ct):=#[#[oc,od,kV,doc,pm,an,gj,ct,osl,rfl,l,c],k]
end
theorem oY{A B:Prop}(h:B):if false=true then A else B:=by exact h
theorem kr{A B:Prop}(h:A):if true=true then A else B:=by exact h
noncomputable def Cx.block(X:Cx)(N:List Str)(scope:Scope)(cl:List (Str×Addr))(C:Addr)(s₀:Shared)(H₀:Hp)(fp:List Addr):Cx:=
 { X with N:=N,s₀:=s₀,H₀:=H₀,env:=compEnvC scope cl C X.env,outer:=X.stack,ex:=fp,fn:=λx=>scope.names.lookup x==some .local,pn:=[],xe:=λ_ _=>False}
structure Bk where
 cl:List (Str×Addr)
 C:Addr
 s₀:Shared
 H₀:Hp
 fp:List Addr
abbrev Cx.blk (X:Cx) (N:List Str) (scope:Scope) (b:Bk):Cx:=X.block N scope b.cl b.C b.s₀ b.H₀ b.fp
structure bJ(sc scope:Scope):Prop where
 kind:scope.kind=.function
 Im:∀y∈scope.names,y.2≠.cell
 uniq:∀y∈scope.names,y.2=.local->scope.names.lookup y.1=some .local
 uniqF:∀y∈scope.names,y.2=.free->scope.names.lookup y.1=some .free
 free:∀y∈scope.names,y.2=.free->sc.names.lookup y.1=some .cell\/sc.names.lookup y.1=some .free
theorem mem_of_lookup{α:Type}{x:Str}{v:α}:∀{l:List (Str×α)},l.lookup x=!v->(x,v)∈l
 | [],h=>by simp at h
 | (n,k)::r,h=>by
  cases hx:x==n with
  |true=>
   simp only[sR,hx]at h;symm;have e:x=n:=by simpa using hx
   subst e;exact b0
  |false=>simp only[sR,hx]at h;exact bP _ (mem_of_lookup h)
theorem iR{env:Env}{x:Str}:∀{names:List (Str×NameKind)},
  (names.map λ(n,k)=>if (k==NameKind.free&&env.scope.kind==.function&&env.kindOf n==some .cell)then (n,NameKind.cell)else (n,k)).lookup x
   = (names.lookup x).map λk=>if (k==NameKind.free&&env.scope.kind==.function&&env.kindOf x==some .cell)then NameKind.cell else k
 | []=>rfl
 | (n,k)::r=>by
  have ih:=@iR env x r;show List.lookup x ((if (k==NameKind.free&&env.scope.kind==.function&&env.kindOf n==some .cell)=true then (n,NameKind.cell)else (n,k))::_)=_
  cases hx:x==n with
  |true=>
   have e:x=n:=by simpa using hx
   subst e;by_cases hc:(k==NameKind.free&&env.scope.kind==.function&&env.kindOf x==some .cell)=true
   . rw[eR hc];simp only[sR,hx,AJ,eR hc]
   . rw[eP hc];simp only[sR,hx,AJ,eP hc]
  |false=>
   by_cases hc:(k==NameKind.free&&env.scope.kind==.function&&env.kindOf n==some .cell)=true
   . rw[eR hc];simp only[sR,hx];exact ih
   . rw[eP hc];simp only[sR,hx];exact ih
theorem zl(h:∀y∈scope.names,y.2=.free->∃c,env.cells.lookup y.1=!c) :
  ∃cl,closureFor scope env=pure cl/\(∀x c,cl.lookup x=!c->env.cells.lookup x=!c/\(x,NameKind.free)∈scope.names)/\∀y∈scope.names,y.2=.free->∃c,cl.lookup y.1=!c:=by
 have key:∀(names:List (Str×NameKind)) (acc:List (Str×Addr)),(∀y∈names,y.2=.free->∃c,env.cells.lookup y.1=!c)->
   ∃cl,(forIn names acc λx (cs:List (Str×Addr))=>(match x with | (name,kind)=>if (kind==.free)=true then (do let c <- cellOf env name;pure (ForInStep.yield ((name,c)::cs)))else pure (ForInStep.yield cs):Sem (ForInStep (List (Str×Addr)))))=pure cl/\
    (∀x c,cl.lookup x=!c->acc.lookup x=!c\/(env.cells.lookup x=!c/\(x,NameKind.free)∈names))/\(∀y∈names,y.2=.free->∃c,cl.lookup y.1=!c)/\∀x c,acc.lookup x=!c->∃c',cl.lookup x=!c':=by
  intro names
  induction names with
  |nil=>intro acc _;exact#[acc,rfl,λx c e=>.inl e,(λy hy=>nomatch hy),λx c e=>#[c,e]]
  |cons y r ih=>
   intro acc hf;obtain⟨n,k⟩:=y;rw[List.forIn_cons];by_cases hk:(k==NameKind.free)=true
   .
    obtain⟨c,hc⟩:=hf (n,k) b0 (by simpa using hk)
    have hc':=hc;obtain⟨cl,e,h1,h2,h3⟩:=ih ((n,c)::acc) λy hy=>hf y (bP _ hy)
    refine#[cl,?_,λx c' q=>?_,λy hy hyf=>?_,λx c' q=>?_]
    .
     have ec:cellOf env n=pure c:=by unfold cellOf;rw[hc']
     show ((if (k==NameKind.free)=true then (do let c <- cellOf env n;pure (ForInStep.yield ((n,c)::acc)))else pure (ForInStep.yield acc)) >>= _)=_
     rw[eR hk,ec];exact e
    .
     rcases h1 x c' q with z |⟨z1,z2⟩
     .
      cases hx:x==n with
      |true=>
       simp only[sR,hx]at z;cases z;have e:x=n:=by simpa using hx
       subst e;have ek:k=NameKind.free:=by simpa using hk
       subst ek;exact .inr #[hc',b0]
      |false=>simp only[sR,hx]at z;exact .inl z
     . exact .inr #[z1,bP _ z2]
    .
     rcases eJ.mp hy with rfl |hy
     . exact h3 n c ⋯
     . exact h2 y hy hyf
    .
     cases hx:x==n with
     |true=>
      have e:x=n:=by simpa using hx
      subst e;exact h3 x c ⋯
     |false=>exact h3 x c' (by simp only[sR,hx];exact q)
   .
    obtain⟨cl,e,h1,h2,h3⟩:=ih acc λy hy=>hf y (bP _ hy)
    refine#[cl,?_,λx c' q=>?_,λy hy hyf=>?_,h3]
    .
     show ((if (k==NameKind.free)=true then (do let c <- cellOf env n;pure (ForInStep.yield ((n,c)::acc)))else pure (ForInStep.yield acc)) >>= _)=_
     rw[eP hk];exact e
    .
     rcases h1 x c' q with z |⟨z1,z2⟩
     . exact .inl z
     . exact .inr #[z1,bP _ z2]
    .
     rcases eJ.mp hy with rfl |hy
     . exact absurd hyf (by simpa using hk)
     . exact h2 y hy hyf
 obtain⟨cl,e,h1,h2,_⟩:=key scope.names [] h;refine#[cl,?_,λx c q=>?_,h2]
 . exact (congrArg (λm=>m >>= λcs=>pure cs) e:_)
 .
  rcases h1 x c q with z |z
  . simp at z
  . exact z
def ku(X:Cx)(ifs:List Expr)(t:TT):Prop:=
 ∀(ah: ~~~1) (s:Shared) (Y:St) (H:Hp) (Q:Bool->Hp->Prop),Inv X ah Y H s->t Y H Q->
  wpAny (~~~2) X.A (forIn ifs true λc r=>if r=true then do let ok <- isTrue c X.env (eval c X.env);pure (ForInStep.yield ok)else pure (ForInStep.yield r)) (TP X ah Y Q) X.xe s
def S4:TT:=λ_ H Q=>Q true H
theorem wc:ku X [] S4:=λ_ _ _ H _ I h=>wpAny_tests_nil #[H,I,h]
theorem Io(h:PT X c t):ku X [c] t:=λah s Y H Q I hw=>wpAny_tests_one (h ah s Y H Q I hw)
noncomputable def lF(e target iter:Expr)(ifs:List Expr)(d:Nat)(it acc:Value)(env:Env)(em:Sem Unit):Sem Fin:=do
 standAt iter.pos
 match <- pyNext it with
 |none=>pure (.done .next)
 |some v=>
  letOwnedTupleGo target it v
  assign target env v
  let mut ok:=true
  for c in ifs do
   if ok then ok <- isTrue c env (eval c env)
  if ok then em
  again (.compLoop e d it acc env)
def Cu(ce:Expr):Prop:=∀(prog:Program) (w:World) (A:Around) (d:Nat) (it acc:Value) (env:Env),A.under (.compLoop ce d it acc env)=A/\(model prog w).den (.compLoop ce d it acc env)=(compTurn ce d it acc env).onRaise (λx=>do noteFrame x env;theTreesLotGoes x)
theorem kB(hu:Cu ce)(ht:compTurn ce d it acc env=lF ce target iter ifs d it acc env em)(I:Nat->Shared->Prop)
  (turn:∀n s,I n s->wpAny (model prog w) A (pyNext it) (λr s₁=>match r with
   |none=>R (.ok .next) s₁
   |some v=>wpAny (model prog w) A (letOwnedTupleGo target it v) (λ_ s₁'=>wpAny (model prog w) A (assign target env v) (λ_ s₂=>
     wpAny (model prog w) A (forIn ifs true λc r=>if r=true then do let ok <- isTrue c env (eval c env);pure (ForInStep.yield ok)else pure (ForInStep.yield r)) (λok s₃=>
      if ok=true then wpAny (model prog w) A em (λ_ s₅=>∃m,m<n/\I m s₅) (λ_ _=>False) s₃
      else ∃m,m<n/\I m s₃) (λ_ _=>False) s₂) (λ_ _=>False) s₁') (λ_ _=>False) s₁) (λ_ _=>False) s)
  (n:Nat) (h:I n s) :
  codeAny (model prog w) A (.compLoop ce d it acc env) R s:=by
 refine codeAny_loop rfl I (λn s hI=>?_) n h
 rw[(hu prog w A d it acc env).1,(hu prog w A d it acc env).2];refine wpAny_noted ?_;rw[ht];refine aS (t5 (aS (mI (turn n s hI) (λr s₁ h₁=>?_) λ_ _ h'=>h'.elim)))
 cases r with
 |none=>exact dA h₁
 |some v=>
  refine aS (mI h₁ (λ_ s₁' h₁'=>?_) λ_ _ h'=>h'.elim)
  refine aS (mI h₁' (λ_ s₂ h₂=>aS (mI h₂ (λok s₃ h₃=>?_) λ_ _ h'=>h'.elim)) λ_ _ h'=>h'.elim)
  cases ok with
  |false=>exact dA #[rfl,h₃]
  |true=>exact aS (mI h₃ (λ_ s₅ h₅=>dA #[rfl,h₅]) λ_ _ h'=>h'.elim)
abbrev TU:=St->Hp->(St->Hp->Prop)->Prop
def PU(X:Cx)(m:Sem Unit)(t:TU):Prop:=
 ∀(ah: ~~~1) (s:Shared) (Y:St) (H:Hp) (Q:St->Hp->Prop),Inv X ah Y H s->t Y H Q->wpAny (~~~2) X.A m (λ_ s'=>∃σ' H',Inv X ah σ' H' s'/\Q σ' H') (λ_ _=>False) s
def wg(D:Addr)(te:TE):TU:=λY H Q=>te Y H λv H5=>∃ys,H5 D=!(.lst ys)/\ys.length<sizeLine/\Q Y (upd H5 D (.lst (ys++[v])))
theorem uG(he:PE X bG te)(hx:X.xe=λ_ _=>False):PU X (do let _ <- call (.builtin "list.append") [.ref D,<- eval bG X.env]) (wg D te):=by
 intro ah s Y H Q I h;have he:=he ah s Y H _ I h;rw[hx]at he;refine aS (mI he (?_) λ_ _ z=>z)
 rintro y s8 ⟨v,H8,I8,r8,ys,hD8,hz8,q8⟩;have ma:=lD ah s8 Y H8 (.ref D) [v] (.ref D) [y] (λ_ H9=>Q Y H9) I8 rfl (.cons r8 .nil) #[_,ys,v,rfl,rfl,hD8,hz8,q8]
 rw[hx]at ma;exact aS (mI ma (by rintro _ s9 ⟨_,H9,I9,_,q9⟩;exact dA #[Y,H9,I9,q9]) λ_ _ z=>z)
noncomputable def σC(k:Nat)(D:Addr)(Y:St):St:=Y++(List.replicate k none++[!(.ref D)])
def BkIn(X:Cx)(Y:St)(b:Bk):Prop:=∃ah,Inv X ah Y b.H₀ b.s₀/\∀a∈b.fp,lz X ah b.H₀ a
def Ou(u0:HO)(X:Cx)(k:Nat)(g:Bk->TG)(tt:Bk->TT)(te:Addr->Bk->TU)(qqz:It)(D:Addr)(Y:St)(H1:Hp)(Q:VK):Prop:=
 ∃W:Nat->Nat->St->Hp->Prop,(∃m,W 0 m (σC k D Y) (upd H1 D u0))/\∀i m σ' H',W i m σ' H'->
  (qqz.stop i H'/\Q (.ref D) H')\/(qqz.go i H'/\∃Nn:St->Hp->Prop,(∀Em En,Nn Em En->∃m',m'<m/\W (i+1) m' Em En)/\∀x H2,qqz.Zd i H' x H2->∀bk:Bk,BkIn X Y bk->g bk x σ' H2 λσ2 H3=>tt bk σ2 H3 λb H4=>
   if b=true then te D bk σ2 H4 Nn else Nn σ2 H4)
noncomputable def uH(u0:HO)(X:Cx)(k:Nat)(wi:TI)(g:Bk->TG)(tt:Bk->TT)(te:Addr->Bk->TU):TE:=λY H Q=>wi Y H λqqz H1=>∀D,H1 D=none->Ou u0 X k g tt te qqz D Y H1 Q
abbrev sG:=uH (.lst [])
structure Ck(X:Cx)(ce tg iter:Expr)(ifs:List Expr)(aD:List Comprehension)(new:Sem Value)(u0:HO)(em:Value->Env->Sem Unit):Prop where
 cls:clausesOf ce=#[tg,iter,ifs,0]::aD
 und:Cu ce
 turn:∀it D env,compTurn ce 0 it (.ref D) env=lF ce tg iter ifs 0 it (.ref D) env (em (.ref D) env)
 new:∃o0:Obj,o0.isFreed=false/\(∀{A:Around}{E Q:Value->Shared->Prop}{s:Shared},Q (.ref s⁻¹) { s with heap:=s.heap.push o0}->wpAny (~~~2) A new Q E s)/\
  ∀(H:Hp) (h:Heap) (a:Addr),h.get? a=!o0->(a==sysModules)=false->eE X.prog X.w H h a u0
 start:∀{A:Around}{R:Result->Shared->Prop}{s:Shared}{it acc:Value}{env:Env},codeAny (~~~2) A (.compLoop ce 0 it acc env) R s->
  wpAny (~~~2) A (pyIter it) (λit' s'=>codeAny (~~~2) A (.compLoop ce 0 it' acc env) R s') (notedBy (~~~2) A env λx s'=>R (.error x) s') s->codeAny (~~~2) A (.compStart ce 0 it acc env) R s
theorem nY{X:Cx}{bG tg iter:Expr}{ifs:List Expr}{aD:List Comprehension}{scope:Scope}{pos:Pos}{em:Value->Env->Sem Unit}(h:∀it acc env,compTurn (.ListComp bG (#[tg,iter,ifs,0]::aD) scope pos) 0 it acc env=lF (.ListComp bG (#[tg,iter,ifs,0]::aD) scope pos) tg iter ifs 0 it acc env (em acc env)) :
  Ck X (.ListComp bG (#[tg,iter,ifs,0]::aD) scope pos) tg iter ifs aD (newList []) (.lst []) em where
 cls:=rfl
 und:=λ_ _ _ _ _ _ _=>#[rfl,rfl]
 turn:=λit D env=>h it (.ref D) env
 new:=#[_,rfl,λh=>nE h,λ_ _ _ e _=>#[o4 _,[],_,.nil,e]]
 start:=codeAny_compStart_list
structure Names(N N':List Str)(scope:Scope)(k:Nat):Prop where
 len:N'.length=N.length+(k+1)
 last:∀x,N'[N.length+k]?=!x->scope.names.lookup x=none
 old:∀i x,N'[i]?=!x->i<N.length->scope.names.lookup x=none\/(N[i]?=!x/\scope.names.lookup x≠some .local)
theorem d8:(relabel scope env).names.lookup x=(scope.names.lookup x).map λk=>if (k==NameKind.free&&env.scope.kind==.function&&env.kindOf x==some .cell)then NameKind.cell else k:=iR
section
variable{X:Cx}
theorem oZ(B:bJ X.env.scope scope)(h:(compEnvC scope cl C X.env).kindOf x=some .cell\/(compEnvC scope cl C X.env).kindOf x=some .free) :
  (x,NameKind.free)∈scope.names:=by
 have e:(compEnvC scope cl C X.env).kindOf x=(scope.names.lookup x).map λk=>if (k==NameKind.free&&X.env.scope.kind==.function&&X.env.kindOf x==some .cell)then NameKind.cell else k:=d8
 rw[e]at h;cases q:scope.names.lookup x with
 |none=>rw[q]at h;rcases h with h |h <;> symm
 |some k=>
  have hm:=mem_of_lookup q;cases k with
  |free=>exact hm
  |cell=>exact absurd rfl (B.Im _ hm)
  |_=>rw[q]at h;rcases h with h |h <;> (simp at h)
theorem Ip(B:bJ X.env.scope scope)(I: ~~~7)(hC:s⁻¹<=C)
  (hf:∀b∈fp,lz X ah H b) (hfs:∀b∈fp,b<s⁻¹)
  (hcl:∀x c,cl.lookup x=!c->X.env.cells.lookup x=!c/\(x,NameKind.free)∈scope.names) (Ov:∀y∈scope.names,y.2=.free->∃c,cl.lookup y.1=!c):(X.block N' scope cl C s H fp).Ok where
 mod:=I.ok.mod
 kind:=B.kind
 glob:=I.ok.glob
 blt:=I.ok.blt
 above:=hC
 inj:=λx y c h1 h2=>I.ok.inj x y c (hcl x c h1).1 (hcl y c h2).1
 has:=λx h=>Ov _ (oZ B h) rfl
 Za:=λx c h1 h2=>by
  have e:scope.names.lookup x=some .local:=by have:(scope.names.lookup x==!NameKind.local)=true:=h1;simpa using this
  have h3:=(hcl x c h2).2;have q:=B.uniqF _ h3 rfl;rw[e]at q;cases q
 hd:=I.ok.hd
 frames:=I.ok.frames
 stk:=.inl rfl
 Zy:=λb hb=>#[kA (hU (hfs b hb) hC),λx c e=>(hf b hb).2.2.2.2.1 x c (hcl x c e).1]
 bs:=I.bs
 N4:=l4 I.ok.N4 I.sz
 yW:=λb o e hb=>by
  obtain⟨_,_,_,h3,_⟩:=hf b hb;rcases h3 with h3 |h3
  . exact I.ok.yW b o e h3
  . exact absurd (hU (fN e) (l4 I.ok.N4 h3)) (nS _)
 DW:=λb hb hm=>by
  rcases eJ.mp (I.yX b hm)with e |e
  . exact (hf b hb).2.1 e
  . exact (hf b hb).2.2.1 e
 nI:=I.stack
 Uo:=I.Bj
theorem gP{ah: ~~~1}{Y:St}{H:Hp}{s:Shared}{N':List Str}{k:Nat}{wi:TI}{g:Bk->TG}{tt:Bk->TT}{tu:Addr->Bk->TU}{ce:Expr}{aD:List Comprehension}{new:Sem Value}{u0:HO}{cp:Pos}{em:Value->Env->Sem Unit}{use:Option (Value->Sem Unit)}{Q:Value->Shared->Prop}{Q0:VK}
  (B:bJ X.env.scope scope) (hc:X.calm=true) (hN:Names X.N N' scope k) (hi:PI X tg iter wi) (ck:Ck X ce tg iter ifs aD new u0 em)
  (hin:∀(b:Bk) (D:Addr),PG (X.blk N' scope b) tg (g b)/\ku (X.blk N' scope b) ifs (tt b)/\PU (X.blk N' scope b) (em (.ref D) (X.blk N' scope b).env) (tu D b))
  (hs:∀x,foldedSetIterable iter X.env x=pure x) (I: ~~~7) (h:uH u0 X k wi g tt tu Y H Q0)
  (fin:∀s' H' D C m,Inv X ah Y H' s'->lz X ah H' C->s'.heap.Ns C m->Q0 (.ref D) H'->compPost (~~~2) X.A X.xe use Q (.ref D) C (.ok .next) s') :
  wpAny (~~~2) X.A (comprehension ce scope X.env cp new false (eval iter X.env) use) Q X.xe s:=by
 obtain⟨cl,hclos,hcl,Ov⟩:=zl λy hy hf=>I.ok.has y.1 (B.free y hy hf)
 refine wpAny_comprehension_free ck.cls hs hclos B.kind B.uniq (cF (hi ah s Y H _ I h) λxv s₁ h₁=>cF h₁ λitv s₂ h₂=>?_)
 obtain⟨it,fp,tn,qqz,H2,rfl,I2,T,aK,f2,hW⟩:=h₂;obtain⟨o0,fr0,new0,ok0⟩:=ck.new;refine new0 (wpAny_newFunctionEnv B.Im (by intro y hy;simp at hy) (λh₁ hns₁ Vk=>?_) B.kind)
 generalize hH2:s₂.heap.push o0=P2 at hns₁ Vk ⊢
 have hC:P2.objs.size=s₂⁻¹+1:=by rw[<- hH2,tS]
 have hDC:s₂⁻¹≠P2.objs.size:=by rw[hC];exact kA (oI _)
 have Vl:s₂⁻¹<=P2.objs.size:=by rw[hC];exact y4 _
 have old:∀b o,s₂.heap.get? b=!o->h₁.get? b=!o:=λb o e=>Vk.extBut b o (kA (by rw[hC];exact AK (fN e))) (dC _ (hH2▸dC _ e))
 have hD0:=I2.hok.fresh (eD _);have hC0:=I2.hok.fresh Vl;have nsys:(s₂⁻¹==sysModules)=false:=by
  have h1:=(I2.ok.mod.glob.keeps I2.bk).lt;refine Bool.eq_false_iff.mpr λq=>?_
  have q:=eq_of_beq q;rw[q]at h1;exact absurd h1 ⋯
 have fps:∀b∈fp,b<s₂⁻¹:=λb hb=>by
  obtain⟨o,e,_⟩:=T.obj _ _ aK b hb;exact fN e
 have ok':=Ip (N':=N') B I2 Vl f2 fps hcl Ov;obtain⟨W,⟨m0,w0⟩,turn⟩:=hW s₂⁻¹ hD0;have fsub:∀b∈fp,b∉frs X.stack:=λb hb=>ok'.DW b hb
 obtain⟨hg,ht,he⟩:=hin #[cl,P2.objs.size,s₂,H2,fp] s₂⁻¹;have I0:Inv (X.block N' scope cl P2.objs.size s₂ H2 fp) [] (σC k s₂⁻¹ Y) (upd H2 s₂⁻¹ u0) { s₂ with heap:=h₁,toks:=s₂.toks+([]:List (Str×Value)).length}:=by
  refine#[ok',rfl,I2.bare,Un.laid old (eD _) hD0,#[_,hns₁,λi x v e1 e2 e3=>?_],λx c e=>?_,?_,λx c e=>?_,λp hp=>?_,I2.hok.laid old (eD _) ?_,?_]
  .
   have e3':(compEnvC scope cl P2.objs.size X.env).kindOf x=some .local\/(compEnvC scope cl P2.objs.size X.env).kindOf x=some .cell\/(compEnvC scope cl P2.objs.size X.env).kindOf x=some .free:=e3;have ek:(compEnvC scope cl P2.objs.size X.env).kindOf x=(scope.names.lookup x).map λk=>if (k==NameKind.free&&X.env.scope.kind==.function&&X.env.kindOf x==some .cell)then NameKind.cell else k:=d8
   have ZD:i<Y.length:=by
    rcases u4 i Y.length with z |z
    . exact z
    .
     exfalso;unfold σC at e2;rw[eI z]at e2;rcases u4 (i - Y.length) k with z2 |z2
     .
      rw[dL (by rw[kS];exact z2)]at e2
      have:=i8 e2;rw[w9]at this;exact absurd this.2 ⋯
     .
      rw[eI (by rw[kS];exact z2),kS]at e2
      have z3:i - Y.length - k=0:=by
       rcases Nat.eq_zero_or_pos (i - Y.length - k)with q |q
       . exact q
       . rw[tP (Nat.succ_le_of_lt q)]at e2;cases e2
      have z4:i=X.N.length+k:=by rw[<- I2.len];lia
      have hn:=hN.last x (by rw[<- z4];exact e1)
      rw[ek,hn]at e3';rcases e3' with q |q |q <;> cases q
   have e2':Y[i]?=!(!v):=by unfold σC at e2;rw[dL ZD]at e2;exact e2
   have hiN:i<X.N.length:=by rw[<- I2.len];exact ZD
   rcases hN.old i x e1 hiN with z |⟨z,z2⟩
   . rw[ek,z]at e3';rcases e3' with q |q |q <;> cases q
   .
    have hfree:(compEnvC scope cl P2.objs.size X.env).kindOf x=some .cell\/(compEnvC scope cl P2.objs.size X.env).kindOf x=some .free:=by
     rcases e3' with q |q
     .
      exfalso;rw[ek]at q;cases hq:scope.names.lookup x with
      |none=>rw[hq]at q;cases q
      |some kk=>
       rw[hq]at q;cases kk with
       | «local»=>exact z2 hq
       |free=>simp only[AJ]at q;split at q <;> cases q
       |_=>simp at q
     . exact q
    have hm:=oZ B hfree;obtain⟨c,hc1⟩:=Ov _ hm rfl;have hc1':=hc1;have hc2:=(hcl x c hc1').1;obtain⟨m2,hn2,hl2⟩:=I2.loc;have hvis:oH X.env.scope x:=(B.free _ hm rfl).elim (λa=>.inr (.inl a)) λa=>.inr (.inr a)
    obtain⟨u,ru,lk⟩:=hl2 i x v z e2' hvis;refine#[u,ru,.inr #[hfree,c,hc1',?_]];rcases lk with ⟨q1,_⟩ |⟨_,c',q1,q2⟩
    .
     exfalso;have lG:X.env.scope.names.lookup x=some .local:=q1;rcases B.free _ hm rfl with y |y
     . have y':=y;rw[lG]at y';cases y'
     . have y':=y;rw[lG]at y';cases y'
    . rw[hc2]at q1;cases q1;obtain⟨o,ho,hd⟩:=q2;exact#[o,old _ _ ho,hd]
  . obtain⟨v,o,ho,hd⟩:=I2.cell x c (hcl x c e).1;exact#[v,o,old _ _ ho,hd]
  . show upd H2 s₂⁻¹ u0 P2.objs.size=none;rw[aC (wP hDC)];exact hC0
  . have q:=I2.jF x c (hcl x c e).1;obtain⟨v,z⟩:=I2.cell x c (hcl x c e).1;rw[aC (kA z.lt)];exact q
  . exact absurd (show p∈([]: ~~~1)from hp) ⋯
  . exact ok0 _ _ _ (Vk.extBut _ _ hDC (dC _ (hH2▸eQ _ fr0))) nsys
  . show (σC k s₂⁻¹ Y).length=N'.length;unfold σC;rw[fA,fA,kS,hN.len,I2.len];rfl
 have stat:∀{H':Hp},(∀b∈fp,H' b=none)->∀b∈fp,lz (X.block N' scope cl P2.objs.size s₂ H2 fp) [] H' b:=λhn b hb=>
  #[hn b hb,(ok'.Zy b hb).1,fsub b hb,.inl hb,λx c e=>(ok'.Zy b hb).2 x c e,λp hp=>absurd (show p∈([]: ~~~1)from hp) ⋯]
 have loop:∀s₃:Shared,s₃={ s₂ with heap:=h₁,toks:=s₂.toks+([]:List (Str×Value)).length}->
   codeAny (~~~2) X.A (.compLoop ce 0 (.ref it) (.ref s₂⁻¹) (compEnvC scope cl P2.objs.size X.env))
    (compPost (~~~2) X.A X.xe use Q (.ref s₂⁻¹) P2.objs.size) s₃:=by
  rintro s₃ rfl;refine kB ck.und (ck.turn _ _ _) (λn s'=>∃i σ' H',Inv (X.block N' scope cl P2.objs.size s₂ H2 fp) [] σ' H' s'/\tn i s'.heap/\(∀b∈fp,H' b=none)/\W i n σ' H') ?_ m0
   #[0,_,_,I0,T.keep _ _ _ aK λb hb o e=>old b o e,λb hb=>?_,w0]
  .
   rintro n s3 ⟨i,σ3,H3,I3,dZ,S2,w3⟩;rcases turn i n σ3 H3 w3 with ⟨stop,qn⟩ |⟨go,Nn,hNn,step⟩
   .
    refine cF (T.done (X.block N' scope cl P2.objs.size s₂ H2 fp) rfl rfl rfl hc i [] s3 σ3 H3 (λ_ _=>False) I3 (stat S2) dZ stop) λr s4 #[hr,I4]=>?_
    subst hr;obtain⟨m,hm,_⟩:=id I4.loc;have I5:=I2.call' I4.os I4.base I4.hok I4.bare λb hb=>#[(f2 b hb).2.2.2.1,(f2 b hb).2.1,(f2 b hb).2.2.2.2.1,(f2 b hb).2.2.2.2.2]
    exact fin s4 H3 _ _ m I5 (I2.DX Vl I4.free) hm qn
   .
    refine cF (T.item (X.block N' scope cl P2.objs.size s₂ H2 fp) rfl rfl rfl hc i [] s3 σ3 H3 (λ_ _=>False) I3 (stat S2) dZ go) λr s4 #[u,hr,h4]=>?_
    subst hr;refine cF h4 ?_;rintro _ s5 ⟨x,H5,I5,r5,y5,ki,ZV⟩;have ZW:=I5.pinned (stat ZV) (T.obj _ _ ki);have again:∀{σ7:St}{H7:Hp}{s7:Shared},Inv (X.block N' scope cl P2.objs.size s₂ H2 fp) ([]++lA fp s5.heap) σ7 H7 s7->Nn σ7 H7->∃m,m<n/\∃i σ' H',Inv (X.block N' scope cl P2.objs.size s₂ H2 fp) [] σ' H' s7/\tn i s7.heap/\(∀b∈fp,H' b=none)/\W i m σ' H':=λ{σ7 H7 s7} I7 n7=>by
     obtain⟨m',hm,w7⟩:=hNn σ7 H7 n7;refine#[m',hm,i+1,σ7,H7,I7.iQ,T.keep _ _ _ ki λb hb o e=>(I7.pin (b,o) (i6 _ (i6 _ (dH hb e)))).1,λb hb=>?_,w7]
     obtain⟨o,e,d⟩:=T.obj _ _ ki b hb;exact (I7.pin (b,o) (i6 _ (i6 _ (dH hb e)))).2.1
    refine cF (hg _ s5 σ3 H5 x u _ ZW r5 (step x H5 y5 #[cl,P2.objs.size,s₂,H2,fp] #[ah,I2,f2])) ?_;rintro _ s6 ⟨σ6,H6,I6,q6⟩;refine cF (ht _ s6 σ6 H6 _ I6 q6) ?_;rintro b s7 ⟨H7,I7,q7⟩;cases b with
    |false=>exact again I7 q7
    |true=>exact mI (he _ s7 σ6 H7 _ I7 q7) (by rintro _ s9 ⟨σ9,H9,I9,q9⟩;exact again I9 q9) λ_ _ z=>z
  . show upd H2 s₂⁻¹ u0 b=none;rw[aC (kA (fps b hb))];exact (f2 b hb).1
 refine ck.start (loop _ rfl) (T.self _ 0 _ _ _ ?_ (loop _ rfl));exact T.keep _ _ _ aK λb hb o e=>old b o e
theorem Ow{N':List Str}{k:Nat}{wi:TI}{g:Bk->TG}{tt:Bk->TT}{te:Bk->TE}(B:bJ X.env.scope scope)(hc:X.calm=true)(hN:Names X.N N' scope k)(hi:PI X tg iter wi)
  (hin:∀b:Bk,PG (X.blk N' scope b) tg (g b)/\ku (X.blk N' scope b) ifs (tt b)/\PE (X.blk N' scope b) bG (te b))
  (hs:∀x,foldedSetIterable iter X.env x=pure x:=by intro _;rfl):PE X (.ListComp bG [#[tg,iter,ifs,0]] scope pos) (sG X k wi g tt λD b=>wg D (te b)):=by
 intro ah s Y H Q I h;refine gP B hc hN hi (nY λ_ _ _=>rfl) (λb D=>#[(hin b).1,(hin b).2.1,uG (hin b).2.2 rfl]) hs I h λs' H' D C m I' f' hn q=>?_
 refine#[m,hn,λh' sb=>#[.ref D,H',?_,rfl,q]]
 obtain⟨f0,f1,f2,f3,f4,f5⟩:=f';exact I'.turned (λb o hb e=>(sb.2 b hb).trans e) f0 f1 f3 f4 f5
theorem By{N':List Str}{k:Nat}{wi:TI}{g:Bk->TG}{tt:Bk->TT}{te:Bk->TE}{i:Nat}{y:Str}{py gG:Pos}(B:bJ X.env.scope scope)(hc:X.calm=true)(hN:Names X.N N' scope k)(hi:PI X tg iter wi)
  (hin:∀b:Bk,PG (X.blk N' scope b) tg (g b)/\ku (X.blk N' scope b) ifs (tt b)/\PE (X.blk N' scope b) bG (te b))
  (Iq:X.N.Nodup) (hy:X.N[i]?=!y) (hl:X.env.scope.names.lookup y=some .local)
  (hsw:swapsWith (.ListComp bG [#[tg,iter,ifs,0]] scope pos) (!(.Name y py)) gG.line X.env=pure true)
  (hs:∀x,foldedSetIterable iter X.env x=pure x:=by intro _;rfl):PS X (.Assign [.Name y py] (.ListComp bG [#[tg,iter,ifs,0]] scope pos) gG) (Oa (sG X k wi g tt λD b=>wg D (te b)) (vX i)):=by
 intro ah s Y H D0 I h;rw[exec_Assign_Name_used _ _ _ _ hsw];refine aS (t5 (aS ?_));refine aS (mI (gP B hc hN hi (nY λ_ _ _=>rfl) (λb D=>#[(hin b).1,(hin b).2.1,uG (hin b).2.2 rfl]) hs I h λs' H' D C m I' f' hn q=>?_) (λ_ s' hq=>dA (dA hq)) λ_ _ e=>e)
 refine wpAny_assign_Name (lu I' Iq hy (.inl hl) (v:=.ref D) rfl (λs2 I2 hsb=>?_) (.inr hl))
 obtain⟨f0,f1,f2,f3,f4,f5⟩:=f';obtain⟨a,sb,ha⟩:=hsb;have nC:C≠a:=by
  rcases ha with e |e
  . rw[e];exact f1
  . exact wP (f4 _ _ e)
 refine#[m,hn.sameBut sb nC,λh' sb'=>#[_,H',?_,q]]
 exact I2.turned (λb o hb e=>(sb'.2 b hb).trans e) f0 f1 f3 f4 f5
end
section
theorem fc
  (h0:codeAny (model prog w) A (.compLoop (.ListComp bG [#[t1,i1,f1,0],#[target,iter,ifs,0]] scope pos) 1 it acc env) R s)
  (h:wpAny (model prog w) A (pyIter it) (λit' s'=>codeAny (model prog w) A (.compLoop (.ListComp bG [#[t1,i1,f1,0],#[target,iter,ifs,0]] scope pos) 1 it' acc env) R s') (λ_ _=>False) s) :
  codeAny (model prog w) A (.compStart (.ListComp bG [#[t1,i1,f1,0],#[target,iter,ifs,0]] scope pos) 1 it acc env) R s:=by
 refine codeAny_of_tree ?_;refine wpAny_notedAt ?_;refine aS (xI (wpAny_ite ?_));split
 .
  first
   |exact aS (dA (dA (And.intro rfl h0)))
   |exact dA (And.intro rfl h0)
 .
  first
   |exact aS (A5 (aS (t5 (aS (mI h (λit' s' h'=>dA (And.intro rfl h')) λ_ _ x=>x.elim)))))
   | (refine aS (A5 ?_);show wpAny _ _ (standAt iter.pos >>= _) _ _ s;exact aS (t5 (aS (mI h (λit' s' h'=>dA (And.intro rfl h')) λ_ _ x=>x.elim))))
end
def Vm(ce iter:Expr)(acc:Value)(env:Env):Sem Unit:=do
 let x <- eval iter env
 standAt iter.pos
 let x <- foldedSetIterable iter env x
 let _ <- runOwn (.compStart ce 1 (<- holding [x] (pyIter x)) acc env) env
noncomputable def tIn(wi:TI)(g:TG)(tt:TT)(tu:TU):TU:=λY H Q=>wi Y H λqqz H1=>∃W:Nat->Nat->St->Hp->Prop,(∃m,W 0 m Y H1)/\∀i m σ' H',W i m σ' H'->
 (qqz.stop i H'/\Q σ' H')\/(qqz.go i H'/\∃Nn:St->Hp->Prop,(∀Em En,Nn Em En->∃m',m'<m/\W (i+1) m' Em En)/\∀x H2,qqz.Zd i H' x H2->g x σ' H2 λσ2 H3=>tt σ2 H3 λb H4=>if b=true then tu σ2 H4 Nn else Nn σ2 H4)
def Cs(X:Cx)(ce:Expr)(acc:Value):Prop:=∀{R:Result->Shared->Prop}{s:Shared}{it:Value},codeAny (~~~2) X.A (.compLoop ce 1 it acc X.env) R s->
 wpAny (~~~2) X.A (pyIter it) (λit' s'=>codeAny (~~~2) X.A (.compLoop ce 1 it' acc X.env) R s') (λ_ _=>False) s->codeAny (~~~2) X.A (.compStart ce 1 it acc X.env) R s
theorem S5{X:Cx}{ce tg iter:Expr}{ifs:List Expr}{D:Addr}{wi:TI}{g:TG}{tt:TT}{tu:TU}{em:Sem Unit}(hc:X.calm=true)(hx:X.xe=λ_ _=>False)(hu:Cu ce)(hrn:∀it,compTurn ce 1 it (.ref D) X.env=lF ce tg iter ifs 1 it (.ref D) X.env em)(eZ:Cs X ce (.ref D))(hi:PI X tg iter wi)(hg:PG X tg g)(ht:ku X ifs tt)(he:PU X em tu)(hs:∀x,foldedSetIterable iter X.env x=pure x) :
  PU X (Vm ce iter (.ref D) X.env) (tIn wi g tt tu):=by
 intro ah s Y H Q I h;have hi:=hi ah s Y H _ I h;rw[hx]at hi;refine aS (mI hi (λv s1 h1=>?_) λ_ _ z=>z)
 refine aS (t5 ?_);rw[hs v];refine aS (dA ?_);refine aS (l7 (mI h1 (λitv s2 h2=>?_) λ_ _ z=>z))
 obtain⟨it,fp,tn,qqz,H2,rfl,I2,T,aK,f2,W,⟨m0,w0⟩,turn⟩:=h2;have stat:∀{H':Hp},(∀b∈fp,H' b=none)->∀b∈fp,lz X ah H' b:=λhn b hb=>#[hn b hb,(f2 b hb).2]
 have loop:codeAny (~~~2) X.A (.compLoop ce 1 (.ref it) (.ref D) X.env) (λr s'=>match r with |.ok f=>∃σ' H',Inv X ah σ' H' s'/\Q σ' H' |.error e=>False) s2:=by
  refine kB hu (hrn _) (λn s'=>∃i σ' H',Inv X ah σ' H' s'/\tn i s'.heap/\(∀b∈fp,H' b=none)/\W i n σ' H') ?_ m0 #[0,Y,H2,I2,aK,λb hb=>(f2 b hb).1,w0]
  rintro n s3 ⟨i,σ3,H3,I3,dZ,S2,w3⟩;rcases turn i n σ3 H3 w3 with ⟨stop,qn⟩ |⟨go,Nn,hN,step⟩
  .
   refine cF (T.done X rfl rfl rfl hc i ah s3 σ3 H3 (λ_ _=>False) I3 (stat S2) dZ stop) λr s4 #[hr,I4]=>?_
   subst hr;exact#[σ3,H3,I4,qn]
  .
   refine cF (T.item X rfl rfl rfl hc i ah s3 σ3 H3 (λ_ _=>False) I3 (stat S2) dZ go) λr s4 #[u,hr,h4]=>?_
   subst hr;refine cF h4 ?_;rintro _ s5 ⟨x,H5,I5,r5,y5,ki,ZV⟩;have ZW:=I5.pinned (stat ZV) (T.obj _ _ ki);have again:∀{σ7:St}{H7:Hp}{s7:Shared},Inv X (ah++lA fp s5.heap) σ7 H7 s7->Nn σ7 H7->∃m,m<n/\∃i σ' H',Inv X ah σ' H' s7/\tn i s7.heap/\(∀b∈fp,H' b=none)/\W i m σ' H':=λ{σ7 H7 s7} I7 n7=>by
    obtain⟨m',hm,w7⟩:=hN σ7 H7 n7;refine#[m',hm,i+1,σ7,H7,I7.iQ,T.keep _ _ _ ki λb hb o e=>(I7.pin (b,o) (i6 _ (i6 _ (dH hb e)))).1,λb hb=>?_,w7]
    obtain⟨o,e,d⟩:=T.obj _ _ ki b hb;exact (I7.pin (b,o) (i6 _ (i6 _ (dH hb e)))).2.1
   have hg:=hg _ s5 σ3 H5 x u _ ZW r5 (step x H5 y5);rw[hx]at hg;refine cF hg ?_;rintro _ s6 ⟨σ6,H6,I6,q6⟩;have ht:=ht _ s6 σ6 H6 _ I6 q6;rw[hx]at ht;refine cF ht ?_;rintro b s7 ⟨H7,I7,q7⟩;cases b with
   |false=>exact again I7 q7
   |true=>exact mI (he _ s7 σ6 H7 _ I7 q7) (by rintro _ s9 ⟨σ9,H9,I9,q9⟩;exact again I9 q9) λ_ _ z=>z
 have start:=eZ loop (T.self _ 0 _ _ _ aK loop);refine aS (wpAny_runOwn (codeAny_mono start λr s' hr=>?_))
 cases r with
 |error e=>exact hr.elim
 |ok f=>exact dA hr
theorem wj{bG t1 i1 tg iter:Expr}{f1 ifs:List Expr}{scope:Scope}{pos:Pos}{it acc:Value}{env:Env}:compTurn (.ListComp bG [#[t1,i1,f1,0],#[tg,iter,ifs,0]] scope pos) 0 it acc env=lF (.ListComp bG [#[t1,i1,f1,0],#[tg,iter,ifs,0]] scope pos) t1 i1 f1 0 it acc env (Vm (.ListComp bG [#[t1,i1,f1,0],#[tg,iter,ifs,0]] scope pos) iter acc env):=by
 show (standAt i1.pos >>= λ_=>pyNext it >>= λr=>_)=(standAt i1.pos >>= λ_=>pyNext it >>= λr=>_)
 congr 1;funext _;congr 1;funext r
 cases r with
 |none=>rfl
 |some v=>
  show (letOwnedTupleGo t1 it v >>= λ_=>assign t1 env v >>= λ_=>_ >>= λok=>_)=(letOwnedTupleGo t1 it v >>= λ_=>assign t1 env v >>= λ_=>_ >>= λok=>_)
  congr 1;funext _;congr 1;funext _;congr 1;funext ok
  cases ok with
  |false=>rfl
  |true=>unfold Vm;simp only[bind_assoc];rfl
section
theorem Ir{N':List Str}{k:Nat}{w1:TI}{w2:Bk->TI}{g1 g2:Bk->TG}{S6 tt2:Bk->TT}{te:Bk->TE}(B:bJ X.env.scope scope)(hc:X.calm=true)(hN:Names X.N N' scope k)(hi:PI X t1 i1 w1)
  (hin:∀b:Bk,(PG (X.blk N' scope b) t1 (g1 b)/\ku (X.blk N' scope b) f1 (S6 b))/\PI (X.blk N' scope b) tg iter (w2 b)/\PG (X.blk N' scope b) tg (g2 b)/\ku (X.blk N' scope b) ifs (tt2 b)/\PE (X.blk N' scope b) bG (te b))
  (hs:∀x,foldedSetIterable i1 X.env x=pure x) (hs2:∀(b:Bk) x,foldedSetIterable iter (X.blk N' scope b).env x=pure x) :
  PE X (.ListComp bG [#[t1,i1,f1,0],#[tg,iter,ifs,0]] scope pos) (sG X k w1 g1 S6 λD b=>tIn (w2 b) (g2 b) (tt2 b) (wg D (te b))):=by
 intro ah s Y H Q I h;refine gP B hc hN hi (nY λ_ _ _=>wj) (λb D=>#[(hin b).1.1,(hin b).1.2,S5 hc rfl (λ_ _ _ _ _ _ _=>#[rfl,rfl]) (λ_=>rfl) fc (hin b).2.1 (hin b).2.2.1 (hin b).2.2.2.1 (uG (hin b).2.2.2.2 rfl) (hs2 b)]) hs I h λs' H' D C m I' f' hn q=>?_
 refine#[m,hn,λh' sb=>#[.ref D,H',?_,rfl,q]]
 obtain⟨f0,f1,f2,f3,f4,f5⟩:=f';exact I'.turned (λb o hb e=>(sb.2 b hb).trans e) f0 f1 f3 f4 f5
theorem Iu{N':List Str}{k:Nat}{w1:TI}{w2:Bk->TI}{g1 g2:Bk->TG}{S6 tt2:Bk->TT}{te:Bk->TE}{i:Nat}{y:Str}{py gG:Pos}(B:bJ X.env.scope scope)(hc:X.calm=true)(hN:Names X.N N' scope k)(hi:PI X t1 i1 w1)
  (hin:∀b:Bk,(PG (X.blk N' scope b) t1 (g1 b)/\ku (X.blk N' scope b) f1 (S6 b))/\PI (X.blk N' scope b) tg iter (w2 b)/\PG (X.blk N' scope b) tg (g2 b)/\ku (X.blk N' scope b) ifs (tt2 b)/\PE (X.blk N' scope b) bG (te b))
  (Iq:X.N.Nodup) (hy:X.N[i]?=!y) (hl:X.env.scope.names.lookup y=some .local)
  (hsw:swapsWith (.ListComp bG [#[t1,i1,f1,0],#[tg,iter,ifs,0]] scope pos) (!(.Name y py)) gG.line X.env=pure true)
  (hs:∀x,foldedSetIterable i1 X.env x=pure x) (hs2:∀(b:Bk) x,foldedSetIterable iter (X.blk N' scope b).env x=pure x) :
  PS X (.Assign [.Name y py] (.ListComp bG [#[t1,i1,f1,0],#[tg,iter,ifs,0]] scope pos) gG) (Oa (sG X k w1 g1 S6 λD b=>tIn (w2 b) (g2 b) (tt2 b) (wg D (te b))) (vX i)):=by
 intro ah s Y H D0 I h;rw[exec_Assign_Name_used _ _ _ _ hsw];refine aS (t5 (aS ?_));refine aS (mI (gP B hc hN hi (nY λ_ _ _=>wj) (λb D=>#[(hin b).1.1,(hin b).1.2,S5 hc rfl (λ_ _ _ _ _ _ _=>#[rfl,rfl]) (λ_=>rfl) fc (hin b).2.1 (hin b).2.2.1 (hin b).2.2.2.1 (uG (hin b).2.2.2.2 rfl) (hs2 b)]) hs I h λs' H' D C m I' f' hn q=>?_) (λ_ s' hq=>dA (dA hq)) λ_ _ e=>e)
 refine wpAny_assign_Name (lu I' Iq hy (.inl hl) (v:=.ref D) rfl (λs2 I2 hsb=>?_) (.inr hl))
 obtain⟨f0,f1,f2,f3,f4,f5⟩:=f';obtain⟨a,sb,ha⟩:=hsb;have nC:C≠a:=by
  rcases ha with e |e
  . rw[e];exact f1
  . exact wP (f4 _ _ e)
 refine#[m,hn.sameBut sb nC,λh' sb'=>#[_,H',?_,q]]
 exact I2.turned (λb o hb e=>(sb'.2 b hb).trans e) f0 f1 f3 f4 f5
end
noncomputable abbrev kI(m:List (Int×Int)):List (Key×V):=m.map λp=>((Sum.inl p.1:Key),V.int p.2)
abbrev dI(m:List (Int×Int)):HO:=.dK (kI m)
end L2
namespace Ev
open L2
inductive D where
 |non |bl (b:Bool) |int (i:Int) |str (x:Str) |tup (l:List D) |lst (l:List D) |fix (l:List D) |emp (m:List (Int×Int)) |Iv (C:Addr) |S7 (ks: ~~~5) (ds:List D)
 deriving Inhabited
inductive Slot where
 |no |dat (d:D) |own (l:List D)
 deriving Inhabited
inductive R where
 |dat (d:D) |new (l:List D) |var (i:Nat)
 deriving Inhabited
abbrev G:=List Slot
abbrev Sg:=L2.St
abbrev K0:Hp:=λ_=>none
def LstAt(M:List Addr)(H:Hp)(a:Addr)(xs:List V):Prop:=a∉M/\H a=!(.lst xs)
def sH(K:Frag)(M:List Addr)(H:Hp)(a:Addr)(xs:List V):Prop:=(a∉M/\∃o,H a=!(.DS o (.lst xs)))\/cZ K K0 a xs
def TupAt(K:Frag)(M:List Addr)(H:Hp)(a:Addr)(xs:List V):Prop:=(a∉M/\Rd H a (.tup xs))\/(iO K K0 a xs/\∃o,K.lookup a=!o/\o.dict=none)
theorem rd0(h:Rd K0 a u):False:=by rcases h with h |⟨o,h⟩ <;> symm
theorem sH.sq{K:Frag}{M:List Addr}{H:Hp}{a:Addr}{xs:List V}(h:sH K M H a xs):cZ K H a xs:=by
 rcases h with ⟨_,o,h⟩ |h |h
 . exact .inl (.inr #[o,h])
 . exact (rd0 h).elim
 . exact .inr h
theorem TupAt.sq{K:Frag}{M:List Addr}{H:Hp}{a:Addr}{xs:List V}(h:TupAt K M H a xs):iO K H a xs:=by
 rcases h with ⟨_,h⟩ |⟨h |h,_⟩
 . exact .inl h
 . exact (rd0 h).elim
 . exact .inr h
noncomputable abbrev ExnO(C a:Addr):HO:=.ext λh=>∃o,h.get? a=!o/\o.cls=.ref C/\PySem.W.notCls o=true/\o.dict=none
structure ExK(K:Frag)(C:Addr):Prop where
 gga:PySem.W.findIn K (.ref C) "__getattribute__"=!(!(.builtin "BaseException.__getattribute__"))
 gat:PySem.W.findIn K (.ref C) "__getattr__"=!none
 bas:PySem.W.mroIn K C (.type "BaseException")=!true
 dct:PySem.W.hasDictIn K C=true
 cls:PySem.W.findIn K (.ref C) "__class__"=!(!(.builtin "object.__class__"))
 spc:PySem.W.specialIn K (.builtin "object.__class__") "__get__"=!(!(.builtin "getset_descriptor.__get__"))
 tks:PySem.W.takesIn K (.builtin "object.__class__")=!true
 mro:PySem.W.mroIn K C (.type "object")=!true
 kit:∀n∈["int", "bool", "str", "tuple", "list", "dict"],PySem.W.kitOne K (.ref C) (.type n)=!false
noncomputable abbrev dicO(ks: ~~~5)(vs:List V):HO:=.dT ((ks.map (List.map Sum.inl)).zip vs)
def Vn:HO->Prop
 |.lst _ |.dT _ |.set _ |.dK _=>True
 |_=>False
mutual
inductive Rep(K:Frag)(M:List Addr)(H:Hp):D->V->Prop
 |non:Rep K M H .non .non
 |bl (b:Bool):Rep K M H (.bl b) (.bl b)
 |int (i:Int):Rep K M H (.int i) (.int i)
 |str (x:Str):Rep K M H (.str x) (.str x)
 |tup {l:List D}{a:Addr}{xs:List V}:TupAt K M H a xs->aH K M H l xs->Rep K M H (.tup l) (.ref a)
 |lst {l:List D}{a:Addr}{xs:List V}:LstAt M H a xs->aH K M H l xs->Rep K M H (.lst l) (.ref a)
 |fix {l:List D}{a:Addr}{xs:List V}:sH K M H a xs->aH K M H l xs->Rep K M H (.fix l) (.ref a)
 |emp {m:List (Int×Int)}{o:Obj}{a:Addr}:a∉M->H a=!(.DS o (dI m))->Rep K M H (.emp m) (.ref a)
 |Iv:ExK K C->a∉M->H a=!(ExnO C a)->Rep K M H (.Iv C) (.ref a)
 |S7:a∉M->H a=!(dicO ks vs)->ks.length=vs.length->aH K M H ds vs->Rep K M H (.S7 ks ds) (.ref a)
inductive aH(K:Frag)(M:List Addr)(H:Hp):List D->List V->Prop
 |nil:aH K M H [] []
 |cons {d:D}{ds:List D}{x:V}{xs:List V}:Rep K M H d x->aH K M H ds xs->aH K M H (d::ds) (x::xs)
end
def aq(M:List Addr)(H:Hp)(M':List Addr)(H':Hp):Prop:=∀b o,H b=!o->b∉M->H' b=!o/\b∉M'
theorem aq.rd(h:aq M H M' H')(n:a∉M)(r:Rd H a u):a∉M'/\Rd H' a u:=by
 rcases r with r |⟨o,r⟩
 . exact#[(h _ _ r n).2,.inl (h _ _ r n).1]
 . exact#[(h _ _ r n).2,.inr #[o,(h _ _ r n).1]]
theorem Rep.stay{K:Frag}{M M':List Addr}{H H':Hp}(h:aq M H M' H'){d:D}{v:V}(r:Rep K M H d v):Rep K M' H' d v:=by
 refine Rep.rec .non .bl .int .str (λt _ q=>?_) (λt _ q=>?_) (λt _ q=>?_) (λn r=>.emp (h _ _ r n).2 (h _ _ r n).1) (λx n r=>.Iv x (h _ _ r n).2 (h _ _ r n).1) (λn r l _ q=>.S7 (h _ _ r n).2 (h _ _ r n).1 l q) .nil (λ_ _ a b=>.cons a b) r
 .
  rcases t with t |t
  . exact .tup (.inl (h.rd t.1 t.2)) q
  . exact .tup (.inr t) q
 . exact .lst #[(h _ _ t.2 t.1).2,(h _ _ t.2 t.1).1] q
 .
  rcases t with ⟨n,o,r⟩ |t
  . exact .fix (.inl #[(h _ _ r n).2,o,(h _ _ r n).1]) q
  . exact .fix (.inr t) q
theorem aH.stay{K:Frag}{M M':List Addr}{H H':Hp}(h:aq M H M' H'):∀{ds:List D}{vs:List V},aH K M H ds vs->aH K M' H' ds vs:=by
 intro ds
 induction ds with
 |nil=>intro vs q;cases q;exact .nil
 |cons d ds ih=>intro vs q;cases q with |cons a b=>exact .cons (a.stay h) (ih b)
theorem aq.refl(M:List Addr)(H:Hp):aq M H M H:=λ_ _ e n=>#[e,n]
theorem aq.trans(a:aq M H M1 H1)(b:aq M1 H1 M2 H2):aq M H M2 H2:=λc o e n=>b c o (a c o e n).1 (a c o e n).2
theorem aq.less(h:∀m∈M',m∈M):aq M H M' H:=λ_ _ e n=>#[e,λz=>n (h _ z)]
theorem aq.laid(hp:H p=none):aq M H M (upd H p o):=λb u e n=>#[by rw[aC (aL e hp)];exact e,n]
theorem aq.aP(hp:H p=none):aq M H (p::M) (upd H p o):=λb u e n=>
 #[by rw[aC (aL e hp)];exact e,λz=>(eJ.mp z).elim (λq=>aL e hp q) n]
theorem aq.write(hp:p∈M):aq M H M (upd H p o):=λb u e n=>#[by rw[aC (λq=>n (by rw[q];exact hp))];exact e,n]
theorem aH.length{K:Frag}{M:List Addr}{H:Hp}{ds:List D}{vs:List V}(r:aH K M H ds vs):ds.length=vs.length:=by
 induction ds generalizing vs with
 |nil=>cases r;rfl
 |cons d ds ih=>cases r with |cons a b=>exact congrArg (· + 1) (ih b)
theorem aH.append{K:Frag}{M:List Addr}{H:Hp}{ds es:List D}{vs ws:List V}(r:aH K M H ds vs)(s:aH K M H es ws):aH K M H (ds++es) (vs++ws):=by
 induction ds generalizing vs with
 |nil=>cases r;exact s
 |cons d ds ih=>cases r with |cons a b=>exact .cons a (ih b)
theorem aH.get{K:Frag}{M:List Addr}{H:Hp}{ds:List D}{vs:List V}{i:Nat}{d:D}(r:aH K M H ds vs)(e:ds[i]?=!d):∃v,vs[i]?=!v/\Rep K M H d v:=by
 induction ds generalizing vs i with
 |nil=>exact nomatch (show none=!d from e)
 |cons d' ds ih=>cases r with |cons a b=>cases i with
  |zero=>cases (show some d'=!d from e);exact#[_,rfl,a]
  |succ i=>obtain⟨v,h⟩:=ih b e;exact#[v,h]
theorem aH.set{K:Frag}{M:List Addr}{H:Hp}{d:D}{v:V}(r:Rep K M H d v){ds:List D}{vs:List V}(i:Nat)(q:aH K M H ds vs):aH K M H (ds.set i d) (vs.set i v):=by
 induction ds generalizing vs i with
 |nil=>cases q;exact .nil
 |cons d' ds ih=>cases q with |cons a b=>cases i with
  |zero=>exact .cons r b
  |succ i=>exact .cons a (ih i b)
theorem aH.take{K:Frag}{M:List Addr}{H:Hp}{ds:List D}{vs:List V}(n:Nat)(q:aH K M H ds vs):aH K M H (ds.take n) (vs.take n):=by
 induction ds generalizing vs n with
 |nil=>cases q;rw[List.take_nil,List.take_nil];exact .nil
 |cons d' ds ih=>cases q with |cons a b=>cases n with
  |zero=>exact .nil
  |succ n=>exact .cons a (ih n b)
theorem aH.drop{K:Frag}{M:List Addr}{H:Hp}{ds:List D}{vs:List V}(n:Nat)(q:aH K M H ds vs):aH K M H (ds.drop n) (vs.drop n):=by
 induction ds generalizing vs n with
 |nil=>cases q;rw[List.drop_nil,List.drop_nil];exact .nil
 |cons d' ds ih=>cases q with |cons a b=>cases n with
  |zero=>exact .cons a b
  |succ n=>exact ih n b
inductive Slots(K:Frag)(M:List Addr)(H:Hp):G->Sg->List Addr->Prop
 |nil:Slots K M H [] [] []
 |no:Slots K M H g Y J->Slots K M H (.no::g) (v::Y) J
 |dat {g:G}{Y:Sg}{J:List Addr}{v:V}{d:D}:Rep K M H d v->Slots K M H g Y J->Slots K M H (.dat d::g) (some v::Y) J
 |own {g:G}{Y:Sg}{J:List Addr}{a:Addr}{xs:List V}{ds:List D}:H a=!(.lst xs)->aH K M H ds xs->Slots K M H g Y J->Slots K M H (.own ds::g) (some (.ref a)::Y) (a::J)
theorem Slots.stay{K:Frag}{M M':List Addr}{H H':Hp}(h:aq M H M' H'){g:G}{Y:Sg}{J:List Addr}(k:∀a∈J,∀o,H a=!o->H' a=!o)(q:Slots K M H g Y J):Slots K M' H' g Y J:=by
 induction q with
 |nil=>exact .nil
 |no q ih=>exact .no (ih k)
 |dat r q ih=>exact .dat (r.stay h) (ih k)
 |own e r q ih=>exact .own (k _ b0 _ e) (r.stay h) (ih λa ha=>k a (bP _ ha))
def wu:List Str:=["law"]
def Iw(n:Str):Str:=n ++ ".<locals>." ++ "<lambda>"
noncomputable def fh(K:Frag):List (Addr×Str):=K.filterMap λp=>match p.2.data with
 |.fields vs=>(match vs.toList with
  |_::.str n _::_=>if wu.contains n=true then (match vs.toList[11]? with
   |!(Value.ref q)=>if (K.lookup q).isNone=true then some (q,Iw n)else none
   |_=>none)else none
  |_=>none)
 |_=>none
structure Z where
 K:Frag
 H0:Hp
 M0:List Addr
 lent:List (Nat×Addr)
 T:List (Addr×Str)
abbrev LamC(q:Str)(c:Addr):HO:=.ext λh=>h.CodeRec (.ref c) q
def TabOk(H:Hp)(p:Addr×Str):Prop:=∃ps:Array Value,H p.1=!(.Ht ps)/\TriplesOk ps.toList/\∀pos cv,codeAmong pos ps.toList=!cv->∃c,cv=.ref c/\H c=!(LamC p.2 c)
noncomputable abbrev Z.TA(z:Z):List Addr:=z.T.map (·.1)
theorem TabOk.keep(t:TabOk H p)(k:∀b o,H b=!o->¬ Vn o->H' b=!o):TabOk H' p:=by obtain⟨ps,h1,h2,h3⟩:=t;exact#[ps,k _ _ h1 id,h2,λpos cv e=>let #[c,e1,e2]:=h3 pos cv e;#[c,e1,k _ _ e2 id]]
noncomputable abbrev Z.B(z:Z):List Addr:=z.lent.map (·.2)
noncomputable abbrev Z.bor(z:Z):List Nat:=z.lent.map (·.1)
structure S(z:Z)(g:G)(Y:Sg)(J M:List Addr)(H:Hp):Prop where
 sl:Slots z.K M H g Y J
 nd:J.Nodup
 sub:∀a∈J,a∈M
 own:∀(i:Nat) (a:Addr) (l:List D),g[i]?=!(.own l)->Y[i]?=!(!(.ref a))->(i∈z.bor/\a∈z.B)\/z.H0 a=none
 live:∀m∈M,(∃o,H m=!o/\Vn o)\/m∈z.TA
 keep:∀b o,z.H0 b=!o->b∉z.B->b∉z.TA->H b=!o
 j8:∀m∈z.M0,m∈M
 m0:∀m∈z.M0,z.H0 m≠none
 bm:∀b∈z.B,b∈z.M0
 jw:∀p∈z.lent,Y[p.1]?=!(!(.ref p.2))/\∃l,g[p.1]?=!(.own l)
 tab:∀p∈z.T,TabOk H p
 tm:∀p∈z.T,p.1∈z.M0
 tt:z.T=fh z.K
section
variable{g:G}
theorem S.fresh(s:S z g Y J M H)(hp:H p=none):p∉M:=λhm=>by
 rcases s.live p hm with ⟨o,e,_⟩ |e
 . rw[hp]at e;cases e
 . obtain⟨q,hq,rfl⟩:=eC.mp e;obtain⟨ps,h1,_⟩:=s.tab q hq;rw[hp]at h1;cases h1
theorem S.notab(s:S z g Y J M H)(hp:H p=!(.lst xs)):p∉z.TA:=λe=>by
 obtain⟨q,hq,rfl⟩:=eC.mp e;obtain⟨ps,h1,_⟩:=s.tab q hq;rw[hp]at h1;cases h1
theorem S.bZ(s:S z g Y J M H)(hp:H p=none):z.H0 p=none:=by
 cases e:z.H0 p with
 |none=>rfl
 |some o=>
  by_cases hb:p∈z.B
  . exact absurd (s.j8 _ (s.bm _ hb)) (s.fresh hp)
  .
   by_cases ht:p∈z.TA
   . obtain⟨q,hq,rfl⟩:=eC.mp ht;exact absurd (s.j8 _ (s.tm q hq)) (s.fresh hp)
   . rw[s.keep p o e hb ht]at hp;cases hp
theorem S.laid(s:S z g Y J M H){p:Addr}{o:HO}(hp:H p=none):S z g Y J M (upd H p o) where
 sl:=s.sl.stay (aq.laid hp) λa _ u e=>by rw[aC (aL e hp)];exact e
 nd:=s.nd
 sub:=s.sub
 own:=s.own
 live:=λm hm=>by
  rcases s.live m hm with ⟨o,e,gr⟩ |e
  . exact .inl #[o,by rw[aC (aL e hp)];exact e,gr]
  . exact .inr e
 keep:=λb u e hb ht=>by rw[aC (aL (s.keep b u e hb ht) hp)];exact s.keep b u e hb ht
 j8:=s.j8
 m0:=s.m0
 bm:=s.bm
 jw:=s.jw
 tab:=λp h=>(s.tab p h).keep λb u e _=>by rw[aC (aL e hp)];exact e
 tm:=s.tm
 tt:=s.tt
theorem S.S8(s:S z g Y J M H){p:Addr}{u0:HO}(gu:Vn u0)(hp:H p=none):S z g Y J (p::M) (upd H p u0) where
 sl:=s.sl.stay (aq.aP hp) λa _ u e=>by rw[aC (aL e hp)];exact e
 nd:=s.nd
 sub:=λa ha=>bP _ (s.sub a ha)
 own:=s.own
 live:=λm hm=>by
  rcases eJ.mp hm with rfl |hm
  . exact .inl #[_,aE,gu]
  .
   rcases s.live m hm with ⟨o,e,gr⟩ |e
   . exact .inl #[o,by rw[aC (aL e hp)];exact e,gr]
   . exact .inr e
 keep:=λb u e hb ht=>by rw[aC (aL (s.keep b u e hb ht) hp)];exact s.keep b u e hb ht
 j8:=λm hm=>bP _ (s.j8 m hm)
 m0:=s.m0
 bm:=s.bm
 jw:=s.jw
 tab:=λp h=>(s.tab p h).keep λb u e _=>by rw[aC (aL e hp)];exact e
 tm:=s.tm
 tt:=s.tt
theorem S.aP(s:S z g Y J M H)(hp:H p=none):S z g Y J (p::M) (upd H p (.lst xs)):=s.S8 trivial hp
theorem S.Iz(s:S z g Y J M H){a:Addr}{u0 u1:HO}(hm:a∈M)(hA:a∉J)(h0:z.H0 a=none)(h:H a=!u0)(g0:Vn u0)(g1:Vn u1):S z g Y J M (upd H a u1) where
 sl:=s.sl.stay (aq.write hm) λb hb u e=>by rw[aC (show b≠a from λq=>hA (by rw[<- q];exact hb))];exact e
 nd:=s.nd
 sub:=s.sub
 own:=s.own
 live:=λm hm=>by
  by_cases e:m=a
  . subst e;exact .inl #[_,aE,g1]
  .
   rcases s.live m hm with ⟨o,q,gr⟩ |q
   . exact .inl #[o,by rw[aC e];exact q,gr]
   . exact .inr q
 keep:=λb o e hb ht=>by rw[aC (λq=>by rw[q,h0]at e;cases e)];exact s.keep b o e hb ht
 j8:=s.j8
 m0:=s.m0
 bm:=s.bm
 jw:=s.jw
 tab:=λp hp=>(s.tab p hp).keep λb o e n=>by rw[aC (λq=>by rw[q,h]at e;cases e;exact n g0)];exact e
 tm:=s.tm
 tt:=s.tt
theorem S.drop(s:S z g Y J M H)(h0:z.H0 p=none)(hA:p∉J):S z g Y J (M.filter λm=>decide (m≠p)) H where
 sl:=s.sl.stay (aq.less λm hm=>(lL.mp hm).1) λ_ _ _ e=>e
 nd:=s.nd
 sub:=λa ha=>lL.mpr #[s.sub a ha,by have:a≠p:=λe=>hA (e▸ha);simpa using this]
 own:=s.own
 live:=λm hm=>s.live m (lL.mp hm).1
 keep:=s.keep
 j8:=λm hm=>lL.mpr #[s.j8 m hm,by have:m≠p:=λe=>s.m0 m hm (e▸h0);simpa using this]
 m0:=s.m0
 bm:=s.bm
 jw:=s.jw
 tab:=s.tab
 tm:=s.tm
 tt:=s.tt
end
def gQ(z:Z)(g:G)(Y:Sg)(J M:List Addr)(H:Hp):R->V->Prop
 |.dat d,v=>Rep z.K M H d v
 |.new l,v=>∃a xs,v=.ref a/\a∈M/\a∉J/\z.H0 a=none/\H a=!(.lst xs)/\aH z.K M H l xs
 |.var i,v=>∃l,g[i]?=!(.own l)/\Y[i]?=!(!v)
inductive Pk(K:Frag)(M:List Addr)(H:Hp):D->V->Prop
 |of:Rep K M H d v->Pk K M H d v
 |lst {l:List D}{a:Addr}{xs:List V}:H a=!(.lst xs)->aH K M H l xs->Pk K M H (.lst l) (.ref a)
theorem Pk.list{K:Frag}{M:List Addr}{H:Hp}{l:List D}{v:V}(h:Pk K M H (.lst l) v):∃a xs,v=.ref a/\H a=!(.lst xs)/\aH K M H l xs:=by
 cases h with
 |of r=>cases r with |lst h1 h2=>exact⟨_,_,rfl,h1.2,h2⟩
 |lst h1 h2=>exact#[_,_,rfl,h1,h2]
theorem Slots.at{K:Frag}{M:List Addr}{H:Hp}{g:G}{Y:Sg}{J:List Addr}{i:Nat}{l:List D}(q:Slots K M H g Y J)(e:g[i]?=!(.own l)):∃a xs,Y[i]?=!(!(.ref a))/\a∈J/\H a=!(.lst xs)/\aH K M H l xs:=by
 induction q generalizing i with
 |nil=>exact nomatch (show none=!(Slot.own l)from e)
 |no q ih=>cases i with
  |zero=>exact nomatch (show some Slot.no=!(Slot.own l)from e)
  |succ i=>exact ih e
 |dat r q ih=>cases i with
  |zero=>exact nomatch (show some (Slot.dat _)=!(Slot.own l)from e)
  |succ i=>exact ih e
 |own h r q ih=>cases i with
  |zero=>cases (show some (Slot.own _)=!(Slot.own l)from e);exact#[_,_,rfl,b0,h,r]
  |succ i=>obtain⟨a,xs,h1,h2,h3⟩:=ih e;exact#[a,xs,h1,bP _ h2,h3]
theorem Slots.sI{K:Frag}{M:List Addr}{H:Hp}{g:G}{Y:Sg}{J:List Addr}{i:Nat}{d:D}(q:Slots K M H g Y J)(e:g[i]?=!(.dat d)):∃v,Y[i]?=!(!v)/\Rep K M H d v:=by
 induction q generalizing i with
 |nil=>exact nomatch (show none=!(Slot.dat d)from e)
 |no q ih=>cases i with
  |zero=>exact nomatch (show some Slot.no=!(Slot.dat d)from e)
  |succ i=>exact ih e
 |dat r q ih=>cases i with
  |zero=>cases (show some (Slot.dat _)=!(Slot.dat d)from e);exact#[_,rfl,r]
  |succ i=>exact ih e
 |own h r q ih=>cases i with
  |zero=>exact nomatch (show some (Slot.own _)=!(Slot.dat d)from e)
  |succ i=>exact ih e
theorem Slots.length{K:Frag}{M:List Addr}{H:Hp}{g:G}{Y:Sg}{J:List Addr}(q:Slots K M H g Y J):g.length=Y.length:=by
 induction q with
 |nil=>rfl
 |no q ih=>exact congrArg (· + 1) ih
 |dat r q ih=>exact congrArg (· + 1) ih
 |own h r q ih=>exact congrArg (· + 1) ih
theorem Slots.jK{K:Frag}{M:List Addr}{H:Hp}{d:D}{v:V}(r:Rep K M H d v){g:G}{Y:Sg}{J:List Addr}(i:Nat)(q:Slots K M H g Y J):∃aF,Slots K M H (g.set i (.dat d)) (Y.set i (!v)) aF/\aF.Sublist J:=by
 induction q generalizing i with
 |nil=>exact#[[],.nil,.slnil]
 |no q ih=>cases i with
  |zero=>exact#[_,.dat r q,BO _]
  |succ i=>obtain⟨aF,h1,h2⟩:=ih i;exact#[aF,.no h1,h2]
 |dat r' q ih=>cases i with
  |zero=>exact#[_,.dat r q,BO _]
  |succ i=>obtain⟨aF,h1,h2⟩:=ih i;exact#[aF,.dat r' h1,h2]
 |own e r' q ih=>cases i with
  |zero=>exact#[_,.dat r q,List.sublist_cons_self _ _]
  |succ i=>obtain⟨aF,h1,h2⟩:=ih i;exact#[_::aF,.own e r' h1,h2.cons₂ _]
theorem Slots.freeze{K:Frag}{M M':List Addr}{H:Hp}(hM:∀m∈M',m∈M){g:G}{Y:Sg}{J:List Addr}{i:Nat}{l:List D}{a:Addr}(q:Slots K M H g Y J)(e:g[i]?=!(.own l))(e2:Y[i]?=!(!(.ref a)))(na:a∉M')(nd:J.Nodup) :
  ∃aF,Slots K M' H (g.set i (.dat (.lst l))) Y aF/\aF.Sublist J/\a∉aF:=by
 induction q generalizing i with
 |nil=>exact nomatch (show none=!(Slot.own l)from e)
 |no q ih=>cases i with
  |zero=>exact nomatch (show some Slot.no=!(Slot.own l)from e)
  |succ i=>obtain⟨aF,h1,h2,h3⟩:=ih e e2 nd;exact#[aF,.no h1,h2,h3]
 |dat r q ih=>cases i with
  |zero=>exact nomatch (show some (Slot.dat _)=!(Slot.own l)from e)
  |succ i=>obtain⟨aF,h1,h2,h3⟩:=ih e e2 nd;exact#[aF,.dat (r.stay (aq.less hM)) h1,h2,h3]
 |@own g Y J b xs ds h r q ih=>cases i with
  |zero=>
   cases (show some (Slot.own _)=!(Slot.own l)from e)
   cases (show some (!(V.ref b))=!(!(V.ref a))from e2)
   exact#[_,.dat (.lst #[na,h] (r.stay (aq.less hM))) (q.stay (aq.less hM) λ_ _ _ e=>e),List.sublist_cons_self _ _,(gN.mp nd).1]
  |succ i=>
   obtain⟨aF,h1,h2,h3⟩:=ih e e2 (gN.mp nd).2;refine#[b::aF,.own h (r.stay (aq.less hM)) h1,h2.cons₂ _,λhm=>?_]
   rcases eJ.mp hm with z |z
   .
    obtain⟨c,xs,z1,z2,_⟩:=q.at e;cases (show some (!(V.ref c))=!(!(V.ref a))from z1.symm.trans e2)
    exact (gN.mp nd).1 (by rw[<- z];exact z2)
   . exact h3 z
theorem Slots.change{K:Frag}{M:List Addr}{H H':Hp}{l':List D}{a:Addr}{xs':List V}(st:aq M H M H')(ha:H' a=!(.lst xs'))(r':aH K M H' l' xs'){g:G}{Y:Sg}{J:List Addr}{i:Nat}{l:List D}(q:Slots K M H g Y J)(e:g[i]?=!(.own l))(e2:Y[i]?=!(!(.ref a)))(nd:J.Nodup)
  (k:∀b∈J,b≠a->∀o,H b=!o->H' b=!o):Slots K M H' (g.set i (.own l')) Y J:=by
 induction q generalizing i with
 |nil=>exact nomatch (show none=!(Slot.own l)from e)
 |no q ih=>cases i with
  |zero=>exact nomatch (show some Slot.no=!(Slot.own l)from e)
  |succ i=>exact .no (ih e e2 nd k)
 |dat r q ih=>cases i with
  |zero=>exact nomatch (show some (Slot.dat _)=!(Slot.own l)from e)
  |succ i=>exact .dat (r.stay st) (ih e e2 nd k)
 |@own g Y J b xs ds h r q ih=>cases i with
  |zero=>
   cases (show some (!(V.ref b))=!(!(V.ref a))from e2)
   exact .own ha r' (q.stay st λc hc o e=>k c (bP _ hc) (λz=>(gN.mp nd).1 (by rw[<- z];exact hc)) o e)
  |succ i=>
   refine .own (k b b0 (λz=>?_) _ h) (r.stay st) (ih e e2 (gN.mp nd).2 λc hc=>k c (bP _ hc))
   obtain⟨c,xs,z1,z2,_⟩:=q.at e;cases (show some (!(V.ref c))=!(!(V.ref a))from z1.symm.trans e2)
   exact (gN.mp nd).1 (by rw[z];exact z2)
section
variable{g:G}
theorem gR(h:(g.set i (.dat d))[j]?=!(.own l)):g[j]?=!(.own l)/\j≠i:=by
 by_cases e:i=j
 .
  subst e;by_cases hi:i<g.length
  . rw[gL hi]at h;symm
  . rw[A8.mpr (by rw[l8];lia)]at h;symm
 . rw[fR e]at h;exact#[h,wP e]
theorem S.freeze(s:S z g Y J M H){i:Nat}{l:List D}(hg:g[i]?=!(.own l))(hb:i∉z.bor):∃aF M',S z (g.set i (.dat (.lst l))) Y aF M' H/\aq M H M' H:=by
 obtain⟨a,xs,e1,e2,e3,e4⟩:=s.sl.at hg;have h0:=(s.own i a l hg e1).elim (λq=>absurd q.1 hb) id
 have hM:∀m∈(M.filter λm=>decide (m≠a)),m∈M:=λm hm=>(lL.mp hm).1
 have na:a∉(M.filter λm=>decide (m≠a)):=λhm=>by
  have:=(lL.mp hm).2;simp at this
 obtain⟨aF,q1,q2,q3⟩:=s.sl.freeze hM hg e1 na s.nd;refine#[aF,_,#[q1,s.nd.sublist q2,λb hb=>lL.mpr #[s.sub b (q2.subset hb),?_],λj b l' h1 h2=>s.own j b l' (gR h1).1 h2,λm hm=>s.live m (hM m hm),s.keep,λm hm=>lL.mpr #[s.j8 m hm,?_],s.m0,s.bm,λp hp=>#[(s.jw p hp).1,?_],s.tab,s.tm,s.tt],aq.less hM]
 rotate_left 2
 .
  have:i≠p.1:=λe=>hb (by rw[e];exact v3 hp)
  rw[fR this];exact (s.jw p hp).2
 .
  have:b≠a:=λe=>q3 (e▸hb)
  simpa using this
 .
  have:m≠a:=λe=>s.m0 m hm (e▸h0)
  simpa using this
theorem S.write(s:S z g Y J M H){i:Nat}{l l':List D}{a:Addr}{xs':List V}(hg:g[i]?=!(.own l))(e1:Y[i]?=!(!(.ref a)))(r:aH z.K M H l' xs'):S z (g.set i (.own l')) Y J M (upd H a (.lst xs'))/\aq M H M (upd H a (.lst xs')):=by
 obtain⟨b,xs,e2,e3,e4,e5⟩:=s.sl.at hg;rw[e1]at e2;injection e2 with e2;injection e2 with e2;injection e2 with e2;subst e2;have st:aq M H M (upd H a (.lst xs')):=aq.write (s.sub a e3);refine#[#[s.sl.change st aE (r.stay st) hg e1 s.nd (λb _ ne o e=>by rw[aC ne];exact e),s.nd,s.sub,λj b l2 h1 h2=>?_,λm hm=>?_,λb o e hb ht=>?_,s.j8,s.m0,s.bm,λp hp=>#[(s.jw p hp).1,?_],λp h=>(s.tab p h).keep λb u e nl=>?_,s.tm,s.tt],st]
 rotate_left 3
 .
  by_cases hj:i=p.1
  . rw[<- hj];exact#[l',gL (dS.mp hg).1]
  . rw[fR hj];exact (s.jw p hp).2
 .
  have:b≠a:=λz2=>by subst z2;rw[e4]at e;cases e;exact nl trivial
  rw[aC this];exact e
 .
  by_cases hj:i=j
  . subst hj;exact s.own i b l hg h2
  . rw[fR hj]at h1;exact s.own j b l2 h1 h2
 .
  by_cases hm2:m=a
  . subst hm2;exact .inl #[_,aE,trivial]
  .
   rcases s.live m hm with ⟨o,e,gr⟩ |e
   . exact .inl #[o,by rw[aC hm2];exact e,gr]
   . exact .inr e
 .
  have q:=s.keep b o e hb ht;have:b≠a:=λz2=>by
   subst z2;rcases s.own i b l hg e1 with w |w
   . exact hb w.2
   . rw[w]at e;cases e
  rw[aC this];exact q
theorem S.jK(s:S z g Y J M H)(hb:i∉z.bor)(r:Rep z.K M H d v):∃aF,S z (g.set i (.dat d)) (Y.set i (!v)) aF M H:=by
 obtain⟨aF,h1,h2⟩:=s.sl.jK r i;refine#[aF,h1,s.nd.sublist h2,λa ha=>s.sub a (h2.subset ha),λj b l h3 h4=>?_,s.live,s.keep,s.j8,s.m0,s.bm,λp hp=>?_,s.tab,s.tm,s.tt]
 rotate_left
 .
  have:i≠p.1:=λe=>hb (by rw[e];exact v3 hp)
  rw[fR this,fR this];exact s.jw p hp
 obtain⟨h5,h6⟩:=gR h3;rw[fR (wP h6)]at h4;exact s.own j b l h5 h4
theorem Slots.o7{K:Frag}{a:Addr}{xs:List V}{l:List D}(h:H a=!(.lst xs))(r:aH K M H l xs){g:G}{Y:Sg}{J:List Addr}(i:Nat)(q:Slots K M H g Y J)(hi:i<g.length):∃aF,Slots K M H (g.set i (.own l)) (Y.set i (!(.ref a))) aF/\(∀b∈aF,b=a\/b∈J)/\(J.Nodup->a∉J->aF.Nodup):=by
 induction q generalizing i with
 |nil=>exact absurd hi (mB _)
 |no q ih=>cases i with
  |zero=>exact#[_,.own h r q,λb hb=>eJ.mp hb,λnd na=>gN.mpr #[na,nd]]
  |succ i=>obtain⟨aF,h1,h2,h3⟩:=ih i (BI hi);exact#[aF,.no h1,h2,h3]
 |dat r' q ih=>cases i with
  |zero=>exact#[_,.own h r q,λb hb=>eJ.mp hb,λnd na=>gN.mpr #[na,nd]]
  |succ i=>obtain⟨aF,h1,h2,h3⟩:=ih i (BI hi);exact#[aF,.dat r' h1,h2,h3]
 |@own g Y J c ys ds e r' q ih=>cases i with
  |zero=>exact#[_,.own h r q,λb hb=>(eJ.mp hb).imp id (bP _),λnd na=>gN.mpr #[λz=>na (bP _ z),(gN.mp nd).2]]
  |succ i=>obtain⟨aF,h1,h2,h3⟩:=ih i (BI hi);exact#[c::aF,.own e r' h1,λb hb=>(eJ.mp hb).elim (λz=>.inr (z▸b0)) λz=>(h2 b z).imp id (bP _),λnd na=>gN.mpr #[λz=>(h2 c z).elim (λw=>na (w▸b0)) (gN.mp nd).1,h3 (gN.mp nd).2 λw=>na (bP _ w)]]
theorem S.o7(s:S z g Y J M H){i:Nat}{l:List D}{a:Addr}{xs:List V}(hb:i∉z.bor)(hi:i<g.length)(hm:a∈M)(hA:a∉J)(h0:z.H0 a=none)(h:H a=!(.lst xs))(r:aH z.K M H l xs):∃aF,S z (g.set i (.own l)) (Y.set i (!(.ref a))) aF M H:=by
 obtain⟨aF,h1,h2,h3⟩:=s.sl.o7 h r i hi;refine#[aF,h1,h3 s.nd hA,λb hb=>(h2 b hb).elim (λe=>e▸hm) (s.sub b),λj b l2 h4 h5=>?_,s.live,s.keep,s.j8,s.m0,s.bm,λp hp=>?_,s.tab,s.tm,s.tt]
 rotate_left
 .
  have:i≠p.1:=λe=>hb (by rw[e];exact v3 hp)
  rw[fR this,fR this];exact s.jw p hp
 by_cases hj:i=j
 .
  subst hj;rw[gL (by rw[<- s.sl.length];exact hi)]at h5
  injection h5 with h5;injection h5 with h5;injection h5 with h5;subst h5;exact .inr h0
 . rw[fR hj]at h4 h5;exact s.own j b l2 h4 h5
end
abbrev Kn (z:Z) (g':G) (Y:Sg) (M:List Addr) (H:Hp) (r:R) (Q:VK):Prop:=
 ∀v H' aF M',S z g' Y aF M' H'->aq M H M' H'->gQ z g' Y aF M' H' r v->Q v H'
def aB(X:Cx)(z:Z)(e:Expr)(g:G)(r:R)(g':G):Prop:=
 ∃t,PE X e t/\∀Y J M H Q,S z g Y J M H->Kn z g' Y M H r Q->t Y H Q
def dz(X:Cx)(z:Z)(e:Expr)(g:G)(b:Bool)(g':G):Prop:=
 ∃t,PT X e t/\∀Y J M H (Q:Bool->Hp->Prop),S z g Y J M H->(∀H' aF M',S z g' Y aF M' H'->aq M H M' H'->Q b H')->t Y H Q
def lH(X:Cx)(z:Z)(f:Value->Value->Sem Value)(d1 d2:D)(res:R):Prop:=
 ∃r:R2,lB X f r/\∀g Y J M H v1 v2 Q,S z g Y J M H->Pk z.K M H d1 v1->Pk z.K M H d2 v2->Kn z g Y M H res Q->r v1 v2 H Q
def IxD(X:Cx)(z:Z)(d1 d2:D)(res:R):Prop:=
 ∃r:R2,IxR X r/\∀g Y J M H v1 v2 Q,S z g Y J M H->Pk z.K M H d1 v1->Pk z.K M H d2 v2->Kn z g Y M H res Q->r v1 v2 H Q
noncomputable def pk:R->G->Option D
 |.dat d,_=>!d
 |.new _,_=>none
 |.var i,g=>match g[i]? with |!(.own l)=>!(.lst l) |!(.dat (.lst l))=>!(.lst l) |_=>none
section
theorem S.pk(s:S z g2 Y J M2 H2)(st:aq M1 H1 M2 H2)(q:gQ z g1 Y bx M1 H1 r v)(h:pk r g2=!d):Pk z.K M2 H2 d v:=by
 cases r with
 |dat d'=>have e:d'=d:=l5 h;subst e;exact .of (Rep.stay st q)
 |new l=>symm
 |var i=>
  obtain⟨l,h1,h2⟩:=q;unfold Ev.pk at h;dsimp only at h;split at h
  . rename_i l' hg;have e:=l5 h;subst e;obtain⟨a,xs,e1,e2,e3,e4⟩:=s.sl.at hg;rw[h2]at e1;injection e1 with e1;injection e1 with e1;subst e1;exact .lst e3 e4
  . rename_i l' hg;have e:=l5 h;subst e;obtain⟨w,e1,e2⟩:=s.sl.sI hg;rw[h2]at e1;injection e1 with e1;injection e1 with e1;exact .of (e1▸e2)
  . symm
theorem Vo{i j}:aB X z (.Constant (.int i) j pos) g ‹i› g:=#[_,Uq,λY J M H Q s k=>k _ _ _ _ s (aq.refl _ _) (.int i)]
theorem ev_bl{i j}:aB X z (.Constant (.bool i) j pos) g (.dat (.bl i)) g:=#[_,ZG,λY J M H Q s k=>k _ _ _ _ s (aq.refl _ _) (.bl i)]
theorem Vp{j}:aB X z (.Constant .none j pos) g (.dat .non) g:=#[_,Ur,λY J M H Q s k=>k _ _ _ _ s (aq.refl _ _) .non]
theorem Vq{x j}:aB X z (.Constant (.str x) j pos) g (.dat (.str x)) g:=#[_,Us,λY J M H Q s k=>k _ _ _ _ s (aq.refl _ _) (.str x)]
theorem Vr{i:Nat}{x:Str}(hN:X.N[i]?=!x)(hv:oH X.env.scope x)(hd:(x==(~~~3))=false)(ie:(x==("__classdict__":Str))=false)(hg:g[i]?=!(.dat d)):aB X z (.Name x pos) g (.dat d) g:=
 #[_,d7 hN hv hd ie,λY J M H Q s k=>let #[v,e,r]:=s.sl.sI hg;#[v,e,k v H J M s (aq.refl _ _) r]]
theorem Ox(hN:X.N[i]?=!x)(hv:oH X.env.scope x)(hd:(x==(~~~3))=false)(ie:(x==("__classdict__":Str))=false)(hg:g[i]?=!(.own l)):aB X z (.Name x pos) g (.var i) g:=
 #[_,d7 hN hv hd ie,λY J M H Q s k=>let #[a,xs,e,r]:=s.sl.at hg;#[_,e,k _ H J M s (aq.refl _ _) #[l,hg,e]]]
theorem Oz(hg:Gl X x)(hm:X.mg x=!u)(r:RelV v u)(hr:∀M H,Rep z.K M H d v)(hd:(x==(~~~3))=false):aB X z (.Name x pos) g (.dat d) g:=
 #[_,N5 hg hm r hd,λY J M H Q s k=>k _ H J M s (aq.refl _ _) (hr M H)]
theorem o8(h:aB X z e g (.new l) g'):aB X z e g (.dat (.lst l)) g':=by
 obtain⟨t,p,q⟩:=h;refine#[t,p,λY J M H Q s k=>q Y J M H Q s λv H' aF M' s' st r=>?_]
 obtain⟨a,xs,rfl,hm,hA,h0,ha,rr⟩:=r;have hM:∀m∈(M'.filter λm=>decide (m≠a)),m∈M':=λm hm=>(lL.mp hm).1
 have na:a∉(M'.filter λm=>decide (m≠a)):=λhm=>by
  have:=(lL.mp hm).2;simp at this
 exact k _ H' aF _ (s'.drop h0 hA) (st.trans (aq.less hM)) (.lst #[na,ha] (rr.stay (aq.less hM)))
theorem Eo(h:aB X z e g (.var i) g1)(hg:g1[i]?=!(.own l))(hb:i∉z.bor):aB X z e g (.dat (.lst l)) (g1.set i (.dat (.lst l))):=by
 obtain⟨t,p,q⟩:=h;refine#[t,p,λY J M H Q s k=>q Y J M H Q s λv H' aF M' s' st r=>?_]
 obtain⟨l',h1,h2⟩:=r;obtain⟨bI,M2,s2,aK⟩:=s'.freeze hg hb;have hi:=(dS.mp hg).1;obtain⟨v',e1,e2⟩:=s2.sl.sI (by rw[gL hi])
 rw[h2]at e1;injection e1 with e1;injection e1 with e1;subst e1;exact k _ H' bI M2 s2 (st.trans aK) e2
theorem Vs(h1:aB X z a g r1 g1)(h2:aB X z b g1 r2 g2)(p1:pk r1 g2=!d1)(p2:pk r2 g2=!d2)(ho:lH X z (binaryOp op) d1 d2 r):aB X z (.BinOp a op b pos) g r g2:=by
 obtain⟨t1,q1,k1⟩:=h1;obtain⟨t2,q2,k2⟩:=h2;obtain⟨rr,o,ko⟩:=ho;exact#[_,ZX o q1 q2,λY J M H Q s k=>k1 Y J M H _ s λv1 H1 bx M1 s1 fP R1=>k2 Y bx M1 H1 _ s1 λv2 H2 bI M2 s2 aK R2=>
  ko g2 Y bI M2 H2 v1 v2 Q s2 (s2.pk aK R1 p1) (s2.pk (aq.refl _ _) R2 p2) λv H' aF M' s' st' R'=>k v H' aF M' s' (fP.trans (aK.trans st')) R']
theorem Vt(h1:aB X z a g r1 g1)(h2:aB X z b g1 r2 g2)(p1:pk r1 g2=!d1)(p2:pk r2 g2=!d2)(ho:lH X z (compareOp op) d1 d2 r)(hm:behindInMarks op b=false):aB X z (.Compare a [op] [b] pos) g r g2:=by
 obtain⟨t1,q1,k1⟩:=h1;obtain⟨t2,q2,k2⟩:=h2;obtain⟨rr,o,ko⟩:=ho;exact#[_,Od o q1 q2 hm,λY J M H Q s k=>k1 Y J M H _ s λv1 H1 bx M1 s1 fP R1=>k2 Y bx M1 H1 _ s1 λv2 H2 bI M2 s2 aK R2=>
  ko g2 Y bI M2 H2 v1 v2 Q s2 (s2.pk aK R1 p1) (s2.pk (aq.refl _ _) R2 p2) λv H' aF M' s' st' R'=>k v H' aF M' s' (fP.trans (aK.trans st')) R']
theorem ev_ix(h1:aB X z a g r1 g1)(h2:aB X z b g1 r2 g2)(p1:pk r1 g2=!d1)(p2:pk r2 g2=!d2)(ho:IxD X z d1 d2 r)(hs:uC b):aB X z (.Subscript a b pos) g r g2:=by
 obtain⟨t1,q1,k1⟩:=h1;obtain⟨t2,q2,k2⟩:=h2;obtain⟨rr,o,ko⟩:=ho;exact#[_,S3 o q1 q2 hs,λY J M H Q s k=>k1 Y J M H _ s λv1 H1 bx M1 s1 fP R1=>k2 Y bx M1 H1 _ s1 λv2 H2 bI M2 s2 aK R2=>
  ko g2 Y bI M2 H2 v1 v2 Q s2 (s2.pk aK R1 p1) (s2.pk (aq.refl _ _) R2 p2) λv H' aF M' s' st' R'=>k v H' aF M' s' (fP.trans (aK.trans st')) R']
theorem gS(q:gQ z g Y J M H (.dat (.bl c)) v):v=.bl c:=by have q':=q;cases q';rfl
theorem Vu(h1:aB X z a g r1 g1)(h2:aB X z b g1 r2 g2)(p1:pk r1 g2=!d1)(p2:pk r2 g2=!d2)(ho:lH X z (compareOp op) d1 d2 (.dat (.bl c)))(hm:behindInMarks op b=false):dz X z (.Compare a [op] [b] pos) g c g2:=by
 obtain⟨t1,q1,k1⟩:=h1;obtain⟨t2,q2,k2⟩:=h2;obtain⟨rr,o,ko⟩:=ho;exact#[_,Oe o q1 q2 hm,λY J M H Q s k=>k1 Y J M H _ s λv1 H1 bx M1 s1 fP R1=>k2 Y bx M1 H1 _ s1 λv2 H2 bI M2 s2 aK R2=>
  ko g2 Y bI M2 H2 v1 v2 _ s2 (s2.pk aK R1 p1) (s2.pk (aq.refl _ _) R2 p2) λv H' aF M' s' st' R'=>#[c,gS R',k H' aF M' s' (fP.trans (aK.trans st'))]]
theorem Vv(h:dz X z a g c g'):dz X z (.UnaryOp .Not a pos) g ((not c)) g':=by obtain⟨t,q,k⟩:=h;exact#[_,Ut q,λY J M H Q s kk=>k Y J M H _ s λH' aF M' s' st=>kk H' aF M' s' st]
def nL(X:Cx)(z:Z)(e:Expr)(g:G)(b:Bool)(g':G):Prop:=
 ∃t,PW X e t/\∀Y J M H (Q:Bool->Hp->Prop),S z g Y J M H->(∀H' aF M',S z g' Y aF M' H'->aq M H M' H'->Q b H')->t Y H Q
theorem nL.tr(h:nL X z e g c g'):dz X z e g c g':=let #[t,q,k]:=h;#[t,q.pt,k]
theorem OD(h:dz X z a g c g'):nL X z (.BoolOp .And [a] pos) g c g':=let #[t,q,k]:=h;#[t,pw_and1 q,k]
theorem Vw(h:dz X z a g c g'):nL X z (.BoolOp .Or [a] pos) g c g':=let #[t,q,k]:=h;#[t,pw_or1 q,k]
def tNo:TT:=λ_ _ _=>False
theorem pw_never:PW X e tNo:=λ_ _ _ _ _ _ _ h=>h.elim
theorem kC:PE X e (λ_ _ _=>False):=λ_ _ _ _ _ _ h=>h.elim
theorem OJ{aD:List Expr}(h:dz X z a g false g1):nL X z (.BoolOp .And (a::b::aD) pos) g false g1:=by obtain⟨t,q,k⟩:=h;exact#[_,pw_and q pw_never,λY J M H Q s kk=>k Y J M H _ s λH' aF M' s' st=>oY (kk H' aF M' s' st)]
theorem O1{aD:List Expr}{c:Bool}(h:dz X z a g true g1)(h2:nL X z (.BoolOp .And (b::aD) pos) g1 c g2):nL X z (.BoolOp .And (a::b::aD) pos) g c g2:=by obtain⟨t,q,k⟩:=h;obtain⟨t2,q2,k2⟩:=h2;exact#[_,pw_and q q2,λY J M H Q s kk=>k Y J M H _ s λH' aF M' s' st=>kr (k2 Y aF M' H' Q s' λH2 bI M2 s2 aK=>kk H2 bI M2 s2 (st.trans aK))]
theorem Vx{aD:List Expr}(h:dz X z a g true g1):nL X z (.BoolOp .Or (a::b::aD) pos) g true g1:=by obtain⟨t,q,k⟩:=h;exact#[_,pw_or q pw_never,λY J M H Q s kk=>k Y J M H _ s λH' aF M' s' st=>kr (kk H' aF M' s' st)]
theorem Vy{aD:List Expr}{c:Bool}(h:dz X z a g false g1)(h2:nL X z (.BoolOp .Or (b::aD) pos) g1 c g2):nL X z (.BoolOp .Or (a::b::aD) pos) g c g2:=by obtain⟨t,q,k⟩:=h;obtain⟨t2,q2,k2⟩:=h2;exact#[_,pw_or q q2,λY J M H Q s kk=>k Y J M H _ s λH' aF M' s' st=>oY (k2 Y aF M' H' Q s' λH2 bI M2 s2 aK=>kk H2 bI M2 s2 (st.trans aK))]
theorem IK(h:aB X z a g r g'):aB X z (.BoolOp op [a] pos) g r g':=let #[t,q,k]:=h;#[t,Uu q,k]
theorem O2{aD:List Expr}(h:aB X z a g (.dat (.bl false)) g1):aB X z (.BoolOp .And (a::b::aD) pos) g (.dat (.bl false)) g1:=by obtain⟨t,q,k⟩:=h;exact#[_,HJ q kC,λY J M H Q s kk=>k Y J M H _ s λv H' aF M' s' st R=>#[false,gS R,oY (kk _ H' aF M' s' st (.bl false))]]
theorem O4{aD:List Expr}(h:aB X z a g (.dat (.bl true)) g1)(h2:aB X z (.BoolOp .And (b::aD) pos) g1 r g2):aB X z (.BoolOp .And (a::b::aD) pos) g r g2:=by obtain⟨t,q,k⟩:=h;obtain⟨t2,q2,k2⟩:=h2;exact#[_,HJ q q2,λY J M H Q s kk=>k Y J M H _ s λv H' aF M' s' st R=>#[true,gS R,kr (k2 Y aF M' H' Q s' λv2 H2 bI M2 s2 aK=>kk v2 H2 bI M2 s2 (st.trans aK))]]
theorem Vz{aD:List Expr}(h:aB X z a g (.dat (.bl true)) g1):aB X z (.BoolOp .Or (a::b::aD) pos) g (.dat (.bl true)) g1:=by obtain⟨t,q,k⟩:=h;exact#[_,SQ q kC,λY J M H Q s kk=>k Y J M H _ s λv H' aF M' s' st R=>#[true,gS R,kr (kk _ H' aF M' s' st (.bl true))]]
theorem VB{aD:List Expr}(h:aB X z a g (.dat (.bl false)) g1)(h2:aB X z (.BoolOp .Or (b::aD) pos) g1 r g2):aB X z (.BoolOp .Or (a::b::aD) pos) g r g2:=by obtain⟨t,q,k⟩:=h;obtain⟨t2,q2,k2⟩:=h2;exact#[_,SQ q q2,λY J M H Q s kk=>k Y J M H _ s λv H' aF M' s' st R=>#[false,gS R,oY (k2 Y aF M' H' Q s' λv2 H2 bI M2 s2 aK=>kk v2 H2 bI M2 s2 (st.trans aK))]]
theorem VD(h:aB X z a g (.dat (.bl c)) g1):aB X z (.UnaryOp .Not a pos) g (.dat (.bl ((not c)))) g1:=by obtain⟨t,q,k⟩:=h;exact#[_,Uv q,λY J M H Q s kk=>k Y J M H _ s λv H' aF M' s' st R=>#[c,gS R,kk _ H' aF M' s' st (.bl _)]]
theorem VF(h:dz X z c g true g1)(h2:aB X z a g1 r g2):aB X z (.IfExp c a b pos) g r g2:=by obtain⟨t,q,k⟩:=h;obtain⟨t2,q2,k2⟩:=h2;exact#[_,vW q q2 kC,λY J M H Q s kk=>k Y J M H _ s λH' aF M' s' st=>kr (k2 Y aF M' H' Q s' λv2 H2 bI M2 s2 aK=>kk v2 H2 bI M2 s2 (st.trans aK))]
theorem VG(h:dz X z c g false g1)(h2:aB X z b g1 r g2):aB X z (.IfExp c a b pos) g r g2:=by obtain⟨t,q,k⟩:=h;obtain⟨t2,q2,k2⟩:=h2;exact#[_,vW q kC q2,λY J M H Q s kk=>k Y J M H _ s λH' aF M' s' st=>oY (k2 Y aF M' H' Q s' λv2 H2 bI M2 s2 aK=>kk v2 H2 bI M2 s2 (st.trans aK))]
inductive jL(z:Z)(Y:Sg)(M:List Addr)(H:Hp):List R->List V->Prop
 |nil:jL z Y M H [] []
 |dat {d:D}{v:V}{rs:List R}{vs:List V}:Rep z.K M H d v->jL z Y M H rs vs->jL z Y M H (.dat d::rs) (v::vs)
 |var {i:Nat}{v:V}{rs:List R}{vs:List V}:Y[i]?=!(!v)->jL z Y M H rs vs->jL z Y M H (.var i::rs) (v::vs)
def dB(X:Cx)(z:Z)(es:List Expr)(g:G)(rs:List R)(g':G):Prop:=
 ∃t,PA X es t/\∀Y J M H (Q:List V->Hp->Prop),S z g Y J M H->(∀vs H' aF M',S z g' Y aF M' H'->aq M H M' H'->jL z Y M' H' rs vs->Q vs H')->t Y H Q
theorem fj:dB X z [] g [] g:=#[_,lC,λY J M H Q s k=>k [] H J M s (aq.refl _ _) .nil]
theorem d9(h:aB X z e g (.dat d) g1)(h2:dB X z es g1 rs g2)(hs:starEach (e::es) X.env=(false,eval e X.env)::starEach es X.env):dB X z (e::es) g (.dat d::rs) g2:=by obtain⟨t,q,k⟩:=h;obtain⟨t2,q2,k2⟩:=h2;exact#[_,iA q q2 hs,λY J M H Q s kk=>k Y J M H _ s λv H' aF M' s' st R=>k2 Y aF M' H' _ s' λvs H2 bI M2 s2 aK R2=>kk _ H2 bI M2 s2 (st.trans aK) (.dat (Rep.stay aK R) R2)]
theorem IV(h:aB X z e g (.var i) g1)(h2:dB X z es g1 rs g2)(hs:starEach (e::es) X.env=(false,eval e X.env)::starEach es X.env):dB X z (e::es) g (.var i::rs) g2:=by obtain⟨t,q,k⟩:=h;obtain⟨t2,q2,k2⟩:=h2;exact#[_,iA q q2 hs,λY J M H Q s kk=>k Y J M H _ s (by rintro v H' aF M' s' st ⟨_,_,R⟩;exact k2 Y aF M' H' _ s' λvs H2 bI M2 s2 aK R2=>kk _ H2 bI M2 s2 (st.trans aK) (.var R R2))]
inductive O5(K:Frag)(M:List Addr)(H:Hp):List D->List V->Prop
 |nil:O5 K M H [] []
 |cons {d:D}{v:V}{ds:List D}{vs:List V}:Pk K M H d v->O5 K M H ds vs->O5 K M H (d::ds) (v::vs)
def rO:List R->G->Option (List D)
 | [],_=>![]
 |r::rs,g=>match pk r g,rO rs g with
  |!d,!ds=>!(d::ds)
  |_,_=>none
theorem S.rO(s:S z g Y J M H)(q:jL z Y M H rs vs)(e:rO rs g=!ds):O5 z.K M H ds vs:=by
 induction q generalizing ds with
 |nil=>cases e;exact .nil
 |@dat d v rs vs r q ih=>
  unfold Ev.rO at e;cases e2:Ev.rO rs g with
  |none=>rw[e2]at e;cases e
  |some ds=>rw[e2]at e;cases e;exact .cons (.of r) (ih e2)
 |@var i v rs vs r q ih=>
  unfold Ev.rO at e;cases e1:Ev.pk (.var i) g with
  |none=>rw[e1]at e;cases e
  |some d=>
   cases e2:Ev.rO rs g with
   |none=>rw[e1,e2]at e;cases e
   |some ds=>
    rw[e1,e2]at e;cases e;unfold Ev.pk at e1;dsimp only at e1;split at e1
    . rename_i l hg;cases e1;obtain⟨a,xs,h1,h2,h3,h4⟩:=s.sl.at hg;rw[r]at h1;injection h1 with h1;injection h1 with h1;subst h1;exact .cons (.lst h3 h4) (ih e2)
    . rename_i l hg;cases e1;obtain⟨w,h1,h2⟩:=s.sl.sI hg;rw[r]at h1;injection h1 with h1;injection h1 with h1;exact .cons (.of (h1▸h2)) (ih e2)
    . cases e1
noncomputable def wz:List R->Option (List D)
 | []=>![]
 |.dat d::rs=>match wz rs with |some ds=>!(d::ds) |none=>none
 |_::_=>none
theorem BG(q:jL z Y M H rs vs)(e:wz rs=!ds):aH z.K M H ds vs:=by
 induction q generalizing ds with
 |nil=>cases e;exact .nil
 |@dat d v rs vs r q ih=>
  unfold wz at e;cases e2:wz rs with
  |none=>rw[e2]at e;cases e
  |some ds=>rw[e2]at e;cases e;exact .cons r (ih e2)
 |var _ _ _=>cases e
theorem sJ(h:n<=16777216):n<=sizeLine:=by rw[sT];exact h
theorem VH{x1}(h:dB X z es g rs g')(hd:wz rs=!ds)(hl:ds.length<=16777216):aB X z (.Tuple es x1 pos) g (.dat (.tup ds)) g':=by
 obtain⟨t,q,k⟩:=h;refine#[_,U6 q,λY J M H Q s kk=>k Y J M H _ s λvs H' aF M' s' st R=>?_]
 have rr:=BG R hd;refine#[by rw[<- rr.length];exact sJ hl,λp hp=>kk _ _ aF M' (s'.laid hp) (st.trans (aq.laid hp)) (.tup (.inl #[s'.fresh hp,.inl aE]) (rr.stay (aq.laid hp)))]
theorem VJ(h:dB X z es g rs g')(hd:wz rs=!ds)(hl:ds.length<=16777216):aB X z (.List es pos) g (.new ds) g':=by
 obtain⟨t,q,k⟩:=h;refine#[_,Ih q,λY J M H Q s kk=>k Y J M H _ s λvs H' aF M' s' st R=>?_]
 have rr:=BG R hd;refine#[by rw[<- rr.length];exact sJ hl,λp hp=>kk _ _ aF (p::M') (s'.aP hp) (st.trans (aq.aP hp)) #[p,vs,rfl,b0,λhA=>s'.fresh hp (s'.sub p hA),s'.bZ hp,aE,rr.stay (aq.aP hp)]]
def CallD(X:Cx)(z:Z)(f:Value)(ds:List D)(res:R):Prop:=
 ∃r,eF X f r/\∀g Y J M H vs Q,S z g Y J M H->O5 z.K M H ds vs->Kn z g Y M H res Q->r vs H Q
theorem IW{x:Str}{id:String}{p:Pos}{es:List Expr}{rs:List R}{ds:List D}(h:dB X z (e::es) g rs g')(hp:rO rs g'=!ds)(hc:CallD X z (.builtin id) ds r)(hg:Gl X x)(hm:X.mg x=none)(hv:bootBuiltins x=!(.builtin id))(hn:x≠ "__name__")(DQ:(x==(~~~3))=false)
  (he:starEach (e::es) X.env=(false,eval e X.env)::starEach es X.env) (jE:(backTo pos (starEach es X.env)).any (·.1)=false):aB X z (.Call (.Name x p) (e::es) [] pos) g r g':=by
 obtain⟨t,q,k⟩:=h;obtain⟨rr,c,kc⟩:=hc;exact#[_,oM c hg hm hv q hn DQ he jE,λY J M H Q s kk=>k Y J M H _ s λvs H' aF M' s' st R=>kc g' Y aF M' H' vs Q s' (s'.rO R hp) λv H2 bI M2 s2 aK R2=>kk v H2 bI M2 s2 (st.trans aK) R2]
theorem Ep(h:dB X z (e::es) g rs g')(hp:rO rs g'=!ds)(hc:CallD X z (.type T) ds r)(hg:Gl X x)(hm:X.mg x=none)(hv:bootBuiltins x=!(.type T))(hn:x≠ "__name__")(DQ:(x==(~~~3))=false)
  (he:starEach (e::es) X.env=(false,eval e X.env)::starEach es X.env) (jE:(backTo pos (starEach es X.env)).any (·.1)=false):aB X z (.Call (.Name x p) (e::es) [] pos) g r g':=by
 obtain⟨t,q,k⟩:=h;obtain⟨rr,c,kc⟩:=hc;exact#[_,Eh c hg hm hv q hn DQ he jE,λY J M H Q s kk=>k Y J M H _ s λvs H' aF M' s' st R=>kc g' Y aF M' H' vs Q s' (s'.rO R hp) λv H2 bI M2 s2 aK R2=>kk v H2 bI M2 s2 (st.trans aK) R2]
end
mutual
noncomputable def cS:D->D->Bool
 |.bl a,.bl b=>a==b
 |.bl a,.int j=>(if a then 1 else 0)==j
 |.int i,.bl b=>i==(if b then 1 else 0)
 |.int i,.int j=>i==j
 |.str x,.str y=>x==y
 |.tup l,.tup m=>bY l m
 |.lst l,.lst m=>bY l m
 |_,_=>false
noncomputable def bY:List D->List D->Bool
 | [],[]=>true
 |a::l,b::m=>cS a b&&bY l m
 |_,_=>false
end
mutual
noncomputable def dep:D->Nat
 |.tup l=>deps l+1
 |.lst l=>deps l+1
 |_=>0
noncomputable def deps:List D->Nat
 | []=>0
 |d::l=>max (dep d) (deps l)
end
mutual
noncomputable def gH:D->Bool
 |.tup l=>cO l
 |.lst l=>cO l
 |.fix _=>false
 |.non=>false
 |.emp _=>false
 |.Iv _=>false
 |.S7 ..=>false
 |_=>true
noncomputable def cO:List D->Bool
 | []=>true
 |d::l=>gH d&&cO l
end
mutual
inductive Dv(h:Heap):D->Value->Prop
 |bl (b:Bool):Dv h (.bl b) (.bool b)
 |int (i:Int) (t:Tok):Dv h (.int i) (.int i t)
 |str (x:Str) (t:Tok):Dv h (.str x) (.str x t)
 |tup {l:List D}{a:Addr}{us:List Value}:IsTup h a us.toArray->jx h l us->Dv h (.tup l) (.ref a)
 |lst {l:List D}{a:Addr}{us:List Value}:h.IsList a us.toArray->jx h l us->Dv h (.lst l) (.ref a)
inductive jx(h:Heap):List D->List Value->Prop
 |nil:jx h [] []
 |cons {d:D}{ds:List D}{u:Value}{us:List Value}:Dv h d u->jx h ds us->jx h (d::ds) (u::us)
end
section
theorem Rep.dv2(I: ~~~7)(q:Rep X.K M H d v):∀u,RelV v u->gH d=true->Dv s.heap d u:=by
 refine Rep.rec (motive_2:=λds vs _=>∀us,Vals vs us->cO ds=true->jx s.heap ds us) ?_ ?_ ?_ ?_ ?_ ?_ ?_ ?_ ?_ ?_ ?_ ?_ q
 . intro u _ p;exact Bool.noConfusion (show false=true from p)
 . intro b u r _;cases r;exact .bl b
 . intro i u r _;obtain⟨t,rfl⟩:=r;exact .int i t
 . intro x u r _;obtain⟨t,rfl⟩:=r;exact .str x t
 . intro l a xs h _ ih u r p;cases r;obtain⟨its,rv,ht,hz⟩:=I.tuple h.sq;exact .tup ht (ih _ rv p)
 . intro l a xs h _ ih u r p;cases r;obtain⟨its,rv,ht,hz⟩:=I.list (cZ.of h.2);exact .lst ht.isList (ih _ rv p)
 . intro l a xs _ _ _ u _ p;exact Bool.noConfusion (show false=true from p)
 . intro m o a _ _ u _ p;exact Bool.noConfusion (show false=true from p)
 . intro C a _ _ _ u _ p;exact Bool.noConfusion (show false=true from p)
 . intro ks ds a vs _ _ _ _ _ u _ p;exact Bool.noConfusion (show false=true from p)
 . intro us r _;cases r;exact .nil
 .
  intro d ds x xs _ _ i1 i2 us r p;cases r with
  |cons r1 r2=>have p:(gH d&&cO ds)=true:=p;rw[eM]at p;exact .cons (i1 _ r1 p.1) (i2 _ r2 p.2)
theorem Rep.dv(I: ~~~7)(q:Rep X.K M H d v)(r:RelV v u)(p:gH d=true):Dv s.heap d u:=q.dv2 I u r p
theorem aH.dv(I: ~~~7)(q:aH X.K M H ds vs)(r:Vals vs us)(p:cO ds=true):jx s.heap ds us:=by
 induction ds generalizing vs us with
 |nil=>cases q;cases r;exact .nil
 |cons d ds ih=>cases q with |cons q1 q2=>cases r with |cons r1 r2=>have p:(gH d&&cO ds)=true:=p;rw[eM]at p;exact .cons (q1.dv I r1 p.1) (ih q2 r2 p.2)
theorem Pk.dv(I: ~~~7)(h:Pk X.K M H d v)(r:RelV v u)(p:gH d=true):Dv s.heap d u:=by
 cases h with
 |of q=>exact q.dv I r p
 |lst h q=>cases r;obtain⟨its,rv,ht,hz⟩:=I.list (cZ.of h);exact .lst ht.isList (aH.dv I q rv (by simpa [gH]using p))
end
theorem jx.length(q:jx h l us):l.length=us.length:=by
 induction l generalizing us with
 |nil=>cases q;rfl
 |cons d l ih=>cases q with |cons a b=>exact congrArg (· + 1) (ih b)
theorem sL{h:Heap}{a:Addr}{us ws:List Value}(x:IsTup h a us.toArray)(y:IsTup h a ws.toArray):us=ws:=by obtain⟨o,e,_,n,d⟩:=x;obtain⟨o',e',_,n',d'⟩:=y;rw[e]at e';cases e';rw[d]at d';injection d' with d1 _;simpa using congrArg Array.toList d1
theorem o9{h:Heap}{a:Addr}{us ws:List Value}(x:h.IsList a us.toArray)(y:h.IsList a ws.toArray):us=ws:=by obtain⟨o,e,_,n,d⟩:=x;obtain⟨o',e',_,n',d'⟩:=y;rw[e]at e';cases e';rw[d]at d';injection d' with d1 _;simpa using congrArg Array.toList d1
theorem kD(x:IsTup h a us)(y:h.IsList a ws):False:=by obtain⟨o,e,c,_⟩:=x;obtain⟨o',e',c',_⟩:=y;rw[e]at e';cases e';rw[c]at c';exact absurd c' ⋯
theorem Ja{h:Heap}{d1:D}{u:Value}(q:Dv h d1 u):∀d2,Dv h d2 u->cS d1 d2=true:=by
 refine Dv.rec (motive_2:=λl us _=>∀m,jx h m us->bY l m=true) ?_ ?_ ?_ ?_ ?_ ?_ ?_ q
 . intro b d2 q;cases q;exact xL b
 . intro i t d2 q;cases q;exact xL i
 . intro x t d2 q;cases q;exact xL x
 .
  intro l a us x _ ih d2 q;cases q with
  |tup y q'=>cases sL x y;exact ih _ q'
  |lst y _=>exact (kD x y).elim
 .
  intro l a us x _ ih d2 q;cases q with
  |tup y _=>exact (kD y x).elim
  |lst y q'=>cases o9 x y;exact ih _ q'
 . intro m q;cases q;rfl
 .
  intro d ds u us _ _ i1 i2 m q;cases q with
  |@cons d' m _ _ b q'=>show (cS d d'&&bY ds m)=true;rw[i1 _ b,i2 _ q'];rfl
theorem O6(q:Dv h d1 u)(q':Dv h d2 u):cS d1 d2=true:=Ja q d2 q'
def S9(l m:List D)(j:Nat):Bool:=match l[j]?,m[j]? with |!a,!b=>cS a b |_,_=>false
theorem pg(l m:List D)(h:l.length=m.length):(List.range l.length).all (S9 l m)=bY l m:=by
 induction l generalizing m with
 |nil=>cases m with
  |nil=>rfl
  |cons _ _=>symm
 |cons a l ih=>cases m with
  |nil=>symm
  |cons b m=>rw[hV,List.range_succ_eq_map,List.all_cons,List.all_map];have e:(S9 (a::l) (b::m) ∘ Nat.succ)=S9 l m:=rfl;rw[e,ih m (B0 h)];rfl
theorem pq(l m:List D)(h:l.length≠m.length):bY l m=false:=by
 induction l generalizing m with
 |nil=>cases m with
  |nil=>exact absurd rfl h
  |cons _ _=>rfl
 |cons a l ih=>cases m with
  |nil=>rfl
  |cons b m=>show (cS a b&&bY l m)=false;rw[ih m (λe=>h (congrArg (· + 1) e)),yB]
theorem wA(l m:List D):((List.range (min l.length m.length)).all (S9 l m)&&l.length==m.length)=bY l m:=by
 by_cases h:l.length=m.length
 . rw[h,Nat.min_self,<- h,pg l m h];simp
 .
  rw[pq l m h];have:(l.length==m.length)=false:=by simpa using h
  rw[this,yB]
theorem pA{l:List D}{j:Nat}{d:D}(e:l[j]?=!d):dep d<=deps l:=by
 induction l generalizing j with
 |nil=>exact nomatch (show none=!d from e)
 |cons d' l ih=>cases j with
  |zero=>cases (show some d'=!d from e);exact Nat.le_max_left _ _
  |succ j=>exact l4 (ih (show l[j]?=!d from e)) (Nat.le_max_right _ _)
theorem jx.get{h:Heap}{l:List D}{us:List Value}{j:Nat}{u:Value}(q:jx h l us)(e:us[j]?=!u):∃d,l[j]?=!d/\Dv h d u:=by
 induction l generalizing us j with
 |nil=>cases q;exact nomatch (show none=!u from e)
 |cons d' l ih=>cases q with |@cons _ _ u' us a b=>cases j with
  |zero=>cases (show some u'=!u from e);exact#[_,rfl,a]
  |succ j=>obtain⟨d,h⟩:=ih b e;exact#[d,h]
theorem in1_units(A:Around):A.in1.units=A.units+1:=rfl
section
theorem Jb(hl:s.heap.IsList l us.toArray)(hb:s.heap.IsList b ws.toArray)(q:jx s.heap ls us)(q':jx s.heap ms ws)(hu:A.units<cLine)
  (he:∀(j:Nat) d1 d2 u1 u2,ls[j]?=!d1->Dv s.heap d1 u1->Dv s.heap d2 u2->SeqAt.EqAt A.in1 s u1 u2 (cS d1 d2)):SeqAt.RcAt A s (.ref l) (.ref b) (bY ls ms):=by
 have h1:=q.length;have h2:=q'.length;by_cases h:ls.length=ms.length
 .
  rw[<- pg ls ms h];have e:us.toArray.size=ls.length:=by rw[d5,h1]
  rw[<- e];refine SeqAt.RcAt.lists hl hb (by rw[d5,d5];lia) hu λj g1 g2=>?_
  obtain⟨d1,e1,v1⟩:=q.get (j:=j) (u:=us[j]) (by simp[g1])
  obtain⟨d2,e2,v2⟩:=q'.get (j:=j) (u:=ws[j]) (by simp[g2])
  have:=he j d1 d2 us[j] ws[j] e1 v1 v2;simpa [S9,e1,e2]using this
 . rw[pq ls ms h];refine SeqAt.RcAt.lists_lengths hl hb ?_ hu;rw[d5,d5];lia
theorem Er(hl:IsTup s.heap l us.toArray)(hb:IsTup s.heap b ws.toArray)(q:jx s.heap ls us)(q':jx s.heap ms ws)(hu:A.units<cLine)
  (he:∀(j:Nat) d1 d2 u1 u2,ls[j]?=!d1->Dv s.heap d1 u1->Dv s.heap d2 u2->SeqAt.EqAt A.in1 s u1 u2 (cS d1 d2)):SeqAt.RcAt A s (.ref l) (.ref b) (bY ls ms):=by
 have h1:=q.length;have h2:=q'.length;have e:us.toArray.size=ls.length:=by rw[d5,h1]
 have e':ws.toArray.size=ms.length:=by rw[d5,h2]
 rw[<- wA,<- e,<- e'];refine SeqAt.RcAt.tuples hl hb hu λj g1 g2=>?_
 obtain⟨d1,e1,v1⟩:=q.get (j:=j) (u:=us[j]) (by simp[g1])
 obtain⟨d2,e2,v2⟩:=q'.get (j:=j) (u:=ws[j]) (by simp[g2])
 have:=he j d1 d2 us[j] ws[j] e1 v1 v2;simpa [S9,e1,e2]using this
theorem wB(x:Dv s.heap d1 (.ref l))(y:Dv s.heap d2 (.ref b))(h:SeqAt.RcAt A s (.ref l) (.ref b) (cS d1 d2)):SeqAt.EqAt A s (.ref l) (.ref b) (cS d1 d2):=by
 by_cases e:l=b
 . subst e;rw[O6 x y];exact .same _
 . exact .of_refs e h
end
theorem pB{s:Shared}:∀(n:Nat) {d1 d2:D}{u1 u2:Value}{A:Around},dep d1<=n->Dv s.heap d1 u1->Dv s.heap d2 u2->A.units+n<cLine->SeqAt.EqAt A s u1 u2 (cS d1 d2)/\SeqAt.RcAt A s u1 u2 (cS d1 d2):=by
 intro n
 induction n using Nat.strongRecOn with
 |ind n ih=>
  intro d1 d2 u1 u2 A hn x y hu;have fu:A.units<cLine:=by lia
  have el:∀{l:List D},deps l+1<=n->∀(j:Nat) d1 d2 u1 u2,l[j]?=!d1->Dv s.heap d1 u1->Dv s.heap d2 u2->SeqAt.EqAt A.in1 s u1 u2 (cS d1 d2):=λhl j d1 d2 u1 u2 e v1 v2=>
   (ih (n - 1) ⋯ (l4 (pA e) ⋯) v1 v2 (by rw[in1_units];lia)).1
  cases x with
  |@tup l0 a0 us0 h q=>
   have hn':deps l0+1<=n:=hn;have x:=Dv.tup h q;cases y with
   |tup h' q'=>have r:=Er h h' q q' fu (el hn');exact#[wB x (.tup h' q') r,r]
   |lst h' q'=>exact#[.tuple_list h h' fu,.tuple_list h h' fu]
   |bl b=>exact#[.tuple_bool b h fu,.tuple_bool b h fu]
   |int b t=>exact#[.tuple_int b t h fu,.tuple_int b t h fu]
   |str b t=>exact#[.tuple_str b t h fu,.tuple_str b t h fu]
  |@lst l0 a0 us0 h q=>
   have hn':deps l0+1<=n:=hn;have x:=Dv.lst h q;cases y with
   |tup h' q'=>exact#[.list_tuple h h' fu,.list_tuple h h' fu]
   |lst h' q'=>have r:=Jb h h' q q' fu (el hn');exact#[wB x (.lst h' q') r,r]
   |bl b=>exact#[.list_bool b h fu,.list_bool b h fu]
   |int b t=>exact#[.list_int b t h fu,.list_int b t h fu]
   |str b t=>exact#[.list_str b t h fu,.list_str b t h fu]
  |bl c=>
   cases y with
   |bl c'=>exact#[.bool_bool c c',.bool_bool c c']
   |int c' t'=>exact#[.bool_int c c' t',.bool_int c c' t']
   |str c' t'=>exact#[.bool_str c c' t',.bool_str c c' t']
   |tup h' q'=>exact#[.bool_tuple c h' fu,.bool_tuple c h' fu]
   |lst h' q'=>exact#[.bool_list c h' fu,.bool_list c h' fu]
  |int c t=>
   cases y with
   |bl c'=>exact#[.int_bool c t c',.int_bool c t c']
   |int c' t'=>exact#[.int_int c t c' t',.int_int c t c' t']
   |str c' t'=>exact#[.int_str c t c' t',.int_str c t c' t']
   |tup h' q'=>exact#[.int_tuple c t h' fu,.int_tuple c t h' fu]
   |lst h' q'=>exact#[.int_list c t h' fu,.int_list c t h' fu]
  |str c t=>
   cases y with
   |bl c'=>exact#[.str_bool c t c',.str_bool c t c']
   |int c' t'=>exact#[.str_int c t c' t',.str_int c t c' t']
   |str c' t'=>exact#[.str_str c t c' t',.str_str c t c' t']
   |tup h' q'=>exact#[.str_tuple c t h' fu,.str_tuple c t h' fu]
   |lst h' q'=>exact#[.str_list c t h' fu,.str_list c t h' fu]
section
variable{K:Frag}
theorem Pk.int{i:Int}(h:Pk K M H (.int i) v):v=.int i:=by cases h with |of r=>cases r;rfl
theorem Pk.bl(h:Pk K M H (.bl i) v):v=.bl i:=by cases h with |of r=>cases r;rfl
theorem Pk.str(h:Pk K M H (.str i) v):v=.str i:=by cases h with |of r=>cases r;rfl
theorem Pk.non(h:Pk K M H .non v):v=.non:=by cases h with |of r=>cases r;rfl
theorem Pk.tup{l:List D}(h:Pk K M H (.tup l) v):∃a xs,v=.ref a/\TupAt K M H a xs/\aH K M H l xs:=by cases h with |of r=>cases r with |tup h1 h2=>exact⟨_,_,rfl,h1,h2⟩
theorem Pk.fix{l:List D}(h:Pk K M H (.fix l) v):∃a xs,v=.ref a/\sH K M H a xs/\aH K M H l xs:=by cases h with |of r=>cases r with |fix h1 h2=>exact⟨_,_,rfl,h1,h2⟩
end
section
theorem BJ{f:Value->Value->Sem Value}{k:Int->Int->Int}{i j:Int}(h:lB X f (Nz λi j=>.int (k i j))):lH X z f (.int i) (.int j) (.dat (.int (k i j))):=
 #[_,h,λg Y J M H v1 v2 Q s p1 p2 kk=>#[i,j,p1.int,p2.int,kk _ H J M s (aq.refl _ _) (.int _)]]
theorem uI{f:Value->Value->Sem Value}{C:Int->Int->Prop}{k:Int->Int->Int}{i j:Int}(h:lB X f (rI C λi j=>.int (k i j)))(hc:C i j):lH X z f (.int i) (.int j) (.dat (.int (k i j))):=
 #[_,h,λg Y J M H v1 v2 Q s p1 p2 kk=>#[i,j,p1.int,p2.int,hc,kk _ H J M s (aq.refl _ _) (.int _)]]
theorem uJ{f:Value->Value->Sem Value}{k:Int->Int->Bool}{i j:Int}(h:lB X f (Nz λi j=>.bl (k i j))):lH X z f (.int i) (.int j) (.dat (.bl (k i j))):=
 #[_,h,λg Y J M H v1 v2 Q s p1 p2 kk=>#[i,j,p1.int,p2.int,kk _ H J M s (aq.refl _ _) (.bl _)]]
def Jc(z:Z)(d1 d2:D)(b:Bool):R2:=λx y H Q=>(∃M,Pk z.K M H d1 x/\Pk z.K M H d2 y)/\Q (.bl b) H
theorem od_eq(hK:z.K=X.K)(p1:gH d1=true)(p2:gH d2=true)(hd:X.A.units+dep d1<cLine):lH X z (compareOp .Eq) d1 d2 (.dat (.bl (cS d1 d2))):=by
 refine#[Jc z d1 d2 (cS d1 d2),?_,λg Y J M H v1 v2 Q s q1 q2 kk=>#[#[M,q1,q2],kk _ H J M s (aq.refl _ _) (.bl _)]]
 intro ah s Y H x y v u Q I rx ry h;obtain⟨⟨M,q1,q2⟩,q⟩:=h;rw[hK]at q1 q2;exact (pB (dep d1) (eD _) (q1.dv I rx p1) (q2.dv I ry p2) hd).2 X.prog X.w X.xe _ #[.bl _,H,I,rfl,q]
section
theorem Jd(hl:s.heap.IsList l us.toArray)(hb:s.heap.IsList b ws.toArray)(q:jx s.heap ls us)(q':jx s.heap ms ws)(hu:A.units<cLine)
  (he:∀(j:Nat) d1 d2 u1 u2,ls[j]?=!d1->Dv s.heap d1 u1->Dv s.heap d2 u2->SeqAt.EqAt A.in1 s u1 u2 (cS d1 d2)):SeqAt.RcNeAt A s (.ref l) (.ref b) ((not (bY ls ms))):=by
 have h1:=q.length;have h2:=q'.length;by_cases h:ls.length=ms.length
 .
  rw[<- pg ls ms h];have e:us.toArray.size=ls.length:=by rw[d5,h1]
  rw[<- e];refine SeqAt.RcNeAt.lists hl hb (by rw[d5,d5];lia) hu λj g1 g2=>?_
  obtain⟨d1,e1,v1⟩:=q.get (j:=j) (u:=us[j]) (by simp[g1])
  obtain⟨d2,e2,v2⟩:=q'.get (j:=j) (u:=ws[j]) (by simp[g2])
  have:=he j d1 d2 us[j] ws[j] e1 v1 v2;simpa [S9,e1,e2]using this
 . rw[pq ls ms h];refine SeqAt.RcNeAt.lists_lengths hl hb ?_ hu;rw[d5,d5];lia
theorem Es(hl:IsTup s.heap l us.toArray)(hb:IsTup s.heap b ws.toArray)(q:jx s.heap ls us)(q':jx s.heap ms ws)(hu:A.units<cLine)
  (he:∀(j:Nat) d1 d2 u1 u2,ls[j]?=!d1->Dv s.heap d1 u1->Dv s.heap d2 u2->SeqAt.EqAt A.in1 s u1 u2 (cS d1 d2)):SeqAt.RcNeAt A s (.ref l) (.ref b) ((not (bY ls ms))):=by
 have h1:=q.length;have h2:=q'.length;have e:us.toArray.size=ls.length:=by rw[d5,h1]
 have e':ws.toArray.size=ms.length:=by rw[d5,h2]
 rw[<- wA,<- e,<- e'];refine SeqAt.RcNeAt.tuples hl hb hu λj g1 g2=>?_
 obtain⟨d1,e1,v1⟩:=q.get (j:=j) (u:=us[j]) (by simp[g1])
 obtain⟨d2,e2,v2⟩:=q'.get (j:=j) (u:=ws[j]) (by simp[g2])
 have:=he j d1 d2 us[j] ws[j] e1 v1 v2;simpa [S9,e1,e2]using this
end
theorem ne_at(x:Dv s.heap d1 u1)(y:Dv s.heap d2 u2)(hu:A.units+dep d1<cLine):SeqAt.RcNeAt A s u1 u2 ((not (cS d1 d2))):=by
 have fu:A.units<cLine:=by lia
 have el:∀{l:List D},deps l+1<=dep d1->∀(j:Nat) d1 d2 u1 u2,l[j]?=!d1->Dv s.heap d1 u1->Dv s.heap d2 u2->SeqAt.EqAt A.in1 s u1 u2 (cS d1 d2):=λhl j e1 e2 u1 u2 e v1 v2=>
  (pB (dep e1) (eD _) v1 v2 (by rw[in1_units];have:=pA e;lia)).1
 cases x with
 |tup h q=>
  cases y with
  |tup h' q'=>exact Es h h' q q' fu (el (by simp[dep]))
  |lst h' q'=>exact .tuple_list h h' fu
  |bl b=>exact .tuple_bool b h fu
  |int b t=>exact .tuple_int b t h fu
  |str b t=>exact .tuple_str b t h fu
 |lst h q=>
  cases y with
  |tup h' q'=>exact .list_tuple h h' fu
  |lst h' q'=>exact Jd h h' q q' fu (el (by simp[dep]))
  |bl b=>exact .list_bool b h fu
  |int b t=>exact .list_int b t h fu
  |str b t=>exact .list_str b t h fu
 |bl c=>
  cases y with
  |bl c'=>exact .bool_bool c c'
  |int c' t'=>exact .bool_int c c' t'
  |str c' t'=>exact .bool_str c c' t'
  |tup h' q'=>exact .bool_tuple c h' fu
  |lst h' q'=>exact .bool_list c h' fu
 |int c t=>
  cases y with
  |bl c'=>exact .int_bool c t c'
  |int c' t'=>exact .int_int c t c' t'
  |str c' t'=>exact .int_str c t c' t'
  |tup h' q'=>exact .int_tuple c t h' fu
  |lst h' q'=>exact .int_list c t h' fu
 |str c t=>
  cases y with
  |bl c'=>exact .str_bool c t c'
  |int c' t'=>exact .str_int c t c' t'
  |str c' t'=>exact .str_str c t c' t'
  |tup h' q'=>exact .str_tuple c t h' fu
  |lst h' q'=>exact .str_list c t h' fu
theorem od_ne(hK:z.K=X.K)(p1:gH d1=true)(p2:gH d2=true)(hd:X.A.units+dep d1<cLine):lH X z (compareOp .NotEq) d1 d2 (.dat (.bl ((not (cS d1 d2))))):=by
 refine#[Jc z d1 d2 ((not (cS d1 d2))),?_,λg Y J M H v1 v2 Q s q1 q2 kk=>#[#[M,q1,q2],kk _ H J M s (aq.refl _ _) (.bl _)]]
 intro ah s Y H x y v u Q I rx ry h;obtain⟨⟨M,q1,q2⟩,q⟩:=h;rw[hK]at q1 q2;exact ne_at (q1.dv I rx p1) (q2.dv I ry p2) hd X.prog X.w X.xe _ #[.bl _,H,I,rfl,q]
theorem Je(q:Dv h d u):∀d' x,Dv h d' u->cS d x=cS d' x:=by
 refine Dv.rec (motive_2:=λl us _=>∀l' m,jx h l' us->bY l m=bY l' m) ?_ ?_ ?_ ?_ ?_ ?_ ?_ q
 . intro b d' x q;cases q;rfl
 . intro i t d' x q;cases q;rfl
 . intro y t d' x q;cases q;rfl
 .
  intro l a us k _ ih d' x q;cases q with
  |tup y q'=>
   cases sL k y;cases x with
   |tup m=>exact ih _ m q'
   |_=>rfl
  |lst y _=>exact (kD k y).elim
 .
  intro l a us k _ ih d' x q;cases q with
  |tup y _=>exact (kD y k).elim
  |lst y q'=>
   cases o9 k y;cases x with
   |lst m=>exact ih _ m q'
   |_=>rfl
 . intro l' m q;cases q;rfl
 .
  intro d ds u us _ _ i1 i2 l' m q;cases q with
  |@cons d' l' _ _ b q'=>cases m with
   |nil=>rfl
   |cons y m=>show (cS d y&&bY ds m)=(cS d' y&&bY l' m);rw[i1 _ y b,i2 _ m q']
theorem O7(x:D)(q:Dv h d u)(q':Dv h d' u):cS d x=cS d' x:=Je q d' x q'
open Classical in
def inE(h:Heap)(x:D)(u:Value):Bool:=decide (∃d,Dv h d u/\cS d x=true)
open Classical in
theorem Jf(q:Dv h d u):inE h x u=cS d x:=by
 unfold inE;cases e:cS d x with
 |true=>exact i5 #[d,q,e]
 |false=>refine mN ?_;rintro⟨d',q',e'⟩;rw[O7 x q' q,e]at e';cases e'
theorem BK(q:jx h l us):us.any (inE h x)=l.any λd=>cS d x:=by
 induction l generalizing us with
 |nil=>cases q;rfl
 |cons d l ih=>cases q with |cons a b=>rw[List.any_cons,List.any_cons,Jf a,ih b]
def rInD(z:Z)(d1 d2:D)(b:Bool):R2:=Jc z d1 d2 b
theorem Jg{A:Around}{s:Shared}{x:D}{u:Value}{l:List D}{us:List Value}(q:jx s.heap l us)(hx:Dv s.heap x u)(hu:A.units+deps l+1<cLine):∀y,y∈us.toArray->SeqAt.EqAt A.in1 s y u (inE s.heap x y):=by
 intro y hy;have hy':y∈us:=by simpa using hy
 obtain⟨j,hj⟩:=List.getElem?_of_mem hy';obtain⟨d,e,qd⟩:=q.get hj;rw[Jf qd];have:=pA e;exact (pB (dep d) (eD _) qd hx (by rw[in1_units];lia)).1
noncomputable def dJ:D->Option (List D)
 |.lst l=>!l
 |.tup l=>!l
 |.fix l=>!l
 |_=>none
theorem Jh{ah: ~~~1}{Y:Sg}{M:List Addr}{H:Hp}{s:Shared}{d:D}{l:List D}{v:V}{u:Value}(I:L2.Inv X ah Y H s)(p:Pk X.K M H d v)(r:RelV v u)(hs:dJ d=!l)(p2:cO l=true) :
  ∃a its,u=.ref a/\jx s.heap l its/\its.length<=sizeLine/\(d=.tup l/\IsTup s.heap a its.toArray\/(d=.lst l\/d=.fix l)/\s.heap.IsList a its.toArray):=by
 cases d with
 |tup m=>cases hs;obtain⟨a,xs,rfl,ha,rr⟩:=p.tup;cases r;obtain⟨its,rv,pl,hz⟩:=I.tuple ha.sq;exact#[a,its,rfl,rr.dv I rv p2,rv.length▸hz,.inl #[rfl,pl]]
 |lst m=>cases hs;obtain⟨a,xs,rfl,ha,rr⟩:=p.list;cases r;obtain⟨its,rv,pl,hz⟩:=I.list (cZ.of ha);exact#[a,its,rfl,rr.dv I rv p2,rv.length▸hz,.inr #[.inl rfl,pl.isList]]
 |fix m=>cases hs;obtain⟨a,xs,rfl,ha,rr⟩:=p.fix;cases r;obtain⟨its,rv,pl,hz⟩:=I.list ha.sq;exact#[a,its,rfl,rr.dv I rv p2,rv.length▸hz,.inr #[.inr rfl,pl.isList]]
 |_=>cases hs
theorem od_in(hK:z.K=X.K)(hs:dJ d2=!l)(p1:gH d1=true)(p2:cO l=true)(hd:X.A.units+deps l+1<cLine):lH X z (compareOp .In) d1 d2 (.dat (.bl (l.any λd=>cS d d1))):=by
 refine#[rInD z d1 d2 (l.any λd=>cS d d1),?_,λg Y J M H v1 v2 Q s q1 q2 kk=>#[#[M,q1,q2],kk _ H J M s (aq.refl _ _) (.bl _)]]
 intro ah s Y H x y v u Q I rx ry h;obtain⟨⟨M,q1,q2⟩,q⟩:=h;rw[hK]at q1 q2;obtain⟨a,its,rfl,Ef,_,t⟩:=Jh I q2 ry hs p2;have el:=Jg Ef (q1.dv I rx p1) hd;rw[<- BK Ef,<- List.any_toArray]at q;rcases t with ⟨_,pl⟩ |⟨_,pl⟩
 . exact SeqAt.in_tupleAt _ pl el #[.bl _,H,I,rfl,q]
 . exact SeqAt.in_listAt _ pl el #[.bl _,H,I,rfl,q]
theorem Ji(hK:z.K=X.K)(hs:dJ d2=!l)(p1:gH d1=true)(p2:cO l=true)(hd:X.A.units+deps l+1<cLine):lH X z (compareOp .NotIn) d1 d2 (.dat (.bl ((not (l.any λd=>cS d d1))))):=by
 refine#[rInD z d1 d2 ((not (l.any λd=>cS d d1))),?_,λg Y J M H v1 v2 Q s q1 q2 kk=>#[#[M,q1,q2],kk _ H J M s (aq.refl _ _) (.bl _)]]
 intro ah s Y H x y v u Q I rx ry h;obtain⟨⟨M,q1,q2⟩,q⟩:=h;rw[hK]at q1 q2;obtain⟨a,its,rfl,Ef,_,t⟩:=Jh I q2 ry hs p2;have el:=Jg Ef (q1.dv I rx p1) hd;rw[<- BK Ef,<- List.any_toArray]at q;rcases t with ⟨_,pl⟩ |⟨_,pl⟩
 . exact SeqAt.notIn_tupleAt _ pl el #[.bl _,H,I,rfl,q]
 . exact SeqAt.notIn_listAt _ pl el #[.bl _,H,I,rfl,q]
theorem wC(b:Bool)(r:RelV x v):plainIs v (.bool b)=true/\(v==Value.bool b)=decide (x=V.bl b):=by
 cases x with
 |non=>cases r;exact#[rfl,rfl]
 |bl c=>cases r;exact#[rfl,by cases c <;> cases b <;> rfl]
 |int _=>obtain⟨t,rfl⟩:=r;exact#[rfl,rfl]
 |str _=>obtain⟨t,rfl⟩:=r;exact#[rfl,rfl]
 |SN _=>obtain⟨t,rfl⟩:=r;exact#[rfl,rfl]
 |flt _=>obtain⟨t,rfl⟩:=r;exact#[rfl,rfl]
 |ref _=>cases r;exact#[rfl,rfl]
 |ty _=>cases r;exact#[rfl,rfl]
def Tc(d:D)(b:Bool):Bool:=match d with |.bl c=>c==b |_=>false
theorem Jj{K:Frag}{M:List Addr}{H:Hp}{d:D}{x:V}{b:Bool}(h:Pk K M H d x):decide (x=V.bl b)=Tc d b:=by
 cases h with
 |of r=>
  cases r with
  |bl c=>cases c <;> cases b <;> rfl
  |_=>rfl
 |lst _ _=>rfl
theorem od_is{d1:D}{b:Bool}:lH X z (compareOp .Is) d1 (.bl b) (.dat (.bl (Tc d1 b))):=by
 refine#[Jc z d1 (.bl b) (Tc d1 b),?_,λg Y J M H v1 v2 Q s q1 q2 kk=>#[#[M,q1,q2],kk _ H J M s (aq.refl _ _) (.bl _)]]
 intro ah s Y H x y v u Q I rx ry h;obtain⟨⟨M,q1,q2⟩,q⟩:=h;have e:=q2.bl;subst e;cases ry;obtain⟨h1,h2⟩:=wC b rx;refine wpAny_is_plain h1 #[.bl (Tc d1 b),H,I,?_,q];rw[h2,Jj q1];rfl
theorem Jk{d1:D}{b:Bool}:lH X z (compareOp .IsNot) d1 (.bl b) (.dat (.bl ((not (Tc d1 b))))):=by
 refine#[Jc z d1 (.bl b) ((not (Tc d1 b))),?_,λg Y J M H v1 v2 Q s q1 q2 kk=>#[#[M,q1,q2],kk _ H J M s (aq.refl _ _) (.bl _)]]
 intro ah s Y H x y v u Q I rx ry h;obtain⟨⟨M,q1,q2⟩,q⟩:=h;have e:=q2.bl;subst e;cases ry;obtain⟨h1,h2⟩:=wC b rx;refine wpAny_isNot_plain h1 #[.bl ((not (Tc d1 b))),H,I,?_,q];rw[h2,Jj q1];rfl
def kF(d:D):Bool:=match d with |.non=>true |_=>false
theorem Jl{K:Frag}{M:List Addr}{H:Hp}{d:D}{x:V}(h:Pk K M H d x):decide (x=V.non)=kF d:=by
 cases h with
 |of r=>cases r <;> rfl
 |lst _ _=>rfl
theorem VL{d1:D}:lH X z (compareOp .Is) d1 .non (.dat (.bl (kF d1))):=
 #[_,U4,λg Y J M H v1 v2 Q s q1 q2 kk=>#[q2.non,by rw[Jl q1];exact kk _ H J M s (aq.refl _ _) (.bl _)]]
theorem O8{d1:D}:lH X z (compareOp .IsNot) d1 .non (.dat (.bl ((not (kF d1))))):=
 #[_,Oc,λg Y J M H v1 v2 Q s q1 q2 kk=>#[q2.non,by rw[Jl q1];exact kk _ H J M s (aq.refl _ _) (.bl _)]]
theorem VM(h:l.length+m.length<=16777216):lH X z (binaryOp .Add) (.lst l) (.lst m) (.new (l++m)):=by
 refine#[_,Vh,λg Y J M H v1 v2 Q s q1 q2 kk=>?_]
 obtain⟨a,xs,rfl,ha,ra⟩:=q1.list;obtain⟨b,ys,rfl,hb,rb⟩:=q2.list;refine#[a,b,xs,ys,rfl,rfl,ha,hb,by rw[<- ra.length,<- rb.length];exact sJ h,λp hp=>?_]
 exact kk _ _ J (p::M) (s.aP hp) (aq.aP hp) #[p,_,rfl,b0,λhA=>s.fresh hp (s.sub p hA),s.bZ hp,aE,(ra.append rb).stay (aq.aP hp)]
theorem VN(h1 : -(2 ^ 63)<=k)(h2:k<2 ^ 63)(h:l.length * k.toNat<=16777216):lH X z (binaryOp .Mult) (.lst l) (.int k) (.new (List.replicate k.toNat l).flatten):=by
 refine#[_,Vi,λg Y J M H v1 v2 Q s q1 q2 kk=>?_]
 obtain⟨a,xs,rfl,ha,ra⟩:=q1.list;have rr:∀n,aH z.K M H (List.replicate n l).flatten (List.replicate n xs).flatten:=λn=>by
  induction n with
  |zero=>simp;exact .nil
  |succ n ih=>rw[y6,y6];exact ra.append ih
 refine#[a,k,xs,rfl,q2.int,ha,h1,h2,by rw[<- ra.length];exact sJ h,λp hp=>?_]
 exact kk _ _ J (p::M) (s.aP hp) (aq.aP hp) #[p,_,rfl,b0,λhA=>s.fresh hp (s.sub p hA),s.bZ hp,aE,(rr _).stay (aq.aP hp)]
def VP(K:Frag):R2:=λx y H Q=>∃a b xs ys,x=.ref a/\y=.ref b/\iO K H a xs/\iO K H b ys/\xs.length+ys.length<=sizeLine/\
 (xs=[]->Q (.ref b) H)/\(xs≠[]->ys=[]->Q (.ref a) H)/\(xs≠[]->ys≠[]->∀p,H p=none->Q (.ref p) (upd H p (.tup (xs++ys))))
theorem Jm:lB X (binaryOp .Add) (VP X.K):=by
 intro ah s Y H x y v u Q I rx ry h;obtain⟨a,b,xs,ys,rfl,rfl,ha,hb,hz,q0,q1,q2⟩:=h;by_cases hx:xs=[]
 .
  subst hx;cases rx;cases ry;obtain⟨its,r1,p1,_⟩:=I.tuple ha;obtain⟨sf,r2,p2,_⟩:=I.tuple hb;cases r1;obtain⟨⟨cls,dd,data,sl⟩,ho,hc,n,hd⟩:=id p1;obtain⟨⟨U9,dd2,data2,sl2⟩,ho2,hc2,n2,hd2⟩:=id p2;subst hc hd hc2 hd2;exact concat_meets #[_,ho,rfl] #[_,ho2,rfl] noFill_tuple_add seq_tuple_add BH BB (BA _ _)
   (tuple_addW0 a b ([].toArray) sf.toArray n n2 dd dd2 sl sl2 ⋯) #[ho,ho2,#[.ref b,H,I,rfl,q0 rfl]]
 . exact Oo ah s Y H (.ref a) (.ref b) v u Q I rx ry #[a,b,xs,ys,rfl,rfl,ha,hb,hx,hz,q1 hx,q2 hx]
theorem O9(hK:z.K=X.K)(h:l.length+m.length<=16777216):lH X z (binaryOp .Add) (.tup l) (.tup m) (.dat (.tup (l++m))):=by
 refine#[_,Jm,λg Y J M H v1 v2 Q s q1 q2 kk=>?_]
 obtain⟨a,xs,rfl,ha,ra⟩:=q1.tup;obtain⟨b,ys,rfl,hb,rb⟩:=q2.tup;have la:=ra.length;have lb:=rb.length;refine#[a,b,xs,ys,rfl,rfl,hK▸ha.sq,hK▸hb.sq,by rw[<- la,<- lb];exact sJ h,λe=>?_,λe1 e2=>?_,λe1 e2 p hp=>?_]
 .
  subst e;cases l with
  |nil=>exact kk _ H J M s (aq.refl _ _) (.tup hb rb)
  |cons _ _=>simp at la
 .
  subst e2;cases m with
  |nil=>rw[n0]at kk;exact kk _ H J M s (aq.refl _ _) (.tup ha ra)
  |cons _ _=>simp at lb
 . exact kk _ _ J M (s.laid hp) (aq.laid hp) (.tup (.inl #[s.fresh hp,.inl aE]) ((ra.append rb).stay (aq.laid hp)))
theorem pF{K:Frag}{M:List Addr}{H:Hp}{l:List D}{xs:List V}{i:Int}{d:D}(r:aH K M H l xs)(h:fS l i=!d):∃v,fS xs i=!v/\Rep K M H d v:=by
 unfold fS at h ⊢
 rw[<- r.length];cases e:rL l.length i with
 |none=>rw[e]at h;symm
 |some j=>rw[e]at h;have h':=h;obtain⟨v,h1,h2⟩:=r.get h';exact#[v,h1,h2]
theorem VR{l:List D}{i:Int}{d:D}(hK:z.K=X.K)(h:fS l i=!d):IxD X z (.lst l) (.int i) (.dat d):=by
 refine#[_,uD,λg Y J M H v1 v2 Q s q1 q2 kk=>?_]
 obtain⟨a,xs,rfl,ha,ra⟩:=q1.list;obtain⟨v,e,r⟩:=pF ra h;exact#[a,xs,i,v,rfl,q2.int,cZ.of ha,e,kk _ H J M s (aq.refl _ _) r]
theorem V0{l:List D}{i:Int}{d:D}(hK:z.K=X.K)(h:fS l i=!d):IxD X z (.fix l) (.int i) (.dat d):=by
 refine#[_,uD,λg Y J M H v1 v2 Q s q1 q2 kk=>?_]
 obtain⟨a,xs,rfl,ha,ra⟩:=q1.fix;obtain⟨v,e,r⟩:=pF ra h;exact#[a,xs,i,v,rfl,q2.int,hK▸ha.sq,e,kk _ H J M s (aq.refl _ _) r]
theorem Pa{l:List D}{i:Int}{d:D}(hK:z.K=X.K)(h:fS l i=!d):IxD X z (.tup l) (.int i) (.dat d):=by
 refine#[_,Vc,λg Y J M H v1 v2 Q s q1 q2 kk=>?_]
 obtain⟨a,xs,rfl,ha,ra⟩:=q1.tup;obtain⟨v,e,r⟩:=pF ra h;exact#[a,xs,i,v,rfl,q2.int,hK▸ha.sq,e,kk _ H J M s (aq.refl _ _) r]
noncomputable def bH:List D->Option (~~~0)
 | []=>![]
 |.int i::l=>match bH l with |some ns=>!(i::ns) |none=>none
 |_::_=>none
theorem dM{K:Frag}{M:List Addr}{H:Hp}{l:List D}{xs:List V}{ns: ~~~0}(q:aH K M H l xs)(e:bH l=!ns):xs=ns.map V.int:=by
 induction l generalizing xs ns with
 |nil=>cases q;cases e;rfl
 |cons d l ih=>cases q with |cons r q=>cases d with
  |int i=>
   have e:(match bH l with |some ns=>!(i::ns) |none=>none)=!ns:=e
   cases e2:bH l with
   |none=>rw[e2]at e;cases e
   |some ns=>rw[e2]at e;cases e;cases r;rw[List.map_cons,ih q e2]
  |_=>cases e
theorem V1{l m:List D}{ns ms: ~~~0}(hK:z.K=X.K)(hu:X.A.units<cLine)(h1:bH l=!ns)(h2:bH m=!ms):lH X z (compareOp .Lt) (.tup l) (.tup m) (.dat (.bl (HT.lexLt ns ms))):=by
 refine#[_,Vb hu,λg Y J M H v1 v2 Q s q1 q2 kk=>?_]
 obtain⟨a,xs,rfl,ha,ra⟩:=q1.tup;obtain⟨b,ys,rfl,hb,rb⟩:=q2.tup;have e1:=dM ra h1;have e2:=dM rb h2;subst e1 e2;exact#[a,b,ns,ms,rfl,rfl,hK▸ha.sq,hK▸hb.sq,kk _ H J M s (aq.refl _ _) (.bl _)]
end
section
theorem O5.one{K:Frag}{M:List Addr}{H:Hp}{d:D}{vs:List V}(h:O5 K M H [d] vs):∃v,vs=[v]/\Pk K M H d v:=by cases h with |cons p q=>cases q;exact#[_,rfl,p]
theorem O5.two{K:Frag}{M:List Addr}{H:Hp}{d e:D}{vs:List V}(h:O5 K M H [d,e] vs):∃v w,vs=[v,w]/\Pk K M H d v/\Pk K M H e w:=by cases h with |cons p q=>cases q with |cons p' q'=>cases q';exact#[_,_,rfl,p,p']
noncomputable def lenD:D->Option Nat
 |.lst l=>!l.length
 |.tup l=>!l.length
 |.fix l=>!l.length
 |_=>none
theorem V2{d:D}{n:Nat}(hK:z.K=X.K)(h:lenD d=!n):CallD X z (.builtin "len") [d] ‹n›:=by
 refine#[_,Ig,λg Y J M H vs Q s p k=>?_]
 obtain⟨v,rfl,pv⟩:=p.one;refine#[v,n,rfl,?_,k _ H J M s (aq.refl _ _) (.int _)];cases d with
 |lst l=>symm;obtain⟨a,xs,rfl,ha,r⟩:=pv.list;exact .inl #[xs,cZ.of ha,r.length]
 |fix l=>symm;obtain⟨a,xs,rfl,ha,r⟩:=pv.fix;exact .inl #[xs,hK▸ha.sq,r.length]
 |tup l=>symm;obtain⟨a,xs,rfl,ha,r⟩:=pv.tup;exact .inr #[xs,hK▸ha.sq,r.length]
 |_=>symm
theorem Pb{d:D}{l:List D}(hK:z.K=X.K)(h:dJ d=!l):CallD X z (.type "list") [d] (.new l):=by
 refine#[_,uF,λg Y J M H vs Q s p k=>?_]
 obtain⟨v,rfl,pv⟩:=p.one;have fin:∀xs,aH z.K M H l xs->∀p,H p=none->Q (.ref p) (upd H p (.lst xs)):=λxs r p hp=>
  k _ _ J (p::M) (s.aP hp) (aq.aP hp) #[p,xs,rfl,b0,λhA=>s.fresh hp (s.sub p hA),s.bZ hp,aE,r.stay (aq.aP hp)]
 cases d with
 |lst m=>symm;obtain⟨a,xs,rfl,ha,r⟩:=pv.list;exact#[a,xs,rfl,.inl (cZ.of ha),fin xs r]
 |fix m=>symm;obtain⟨a,xs,rfl,ha,r⟩:=pv.fix;exact#[a,xs,rfl,.inl (hK▸ha.sq),fin xs r]
 |tup m=>symm;obtain⟨a,xs,rfl,ha,r⟩:=pv.tup;exact#[a,xs,rfl,.inr (hK▸ha.sq),fin xs r]
 |_=>symm
theorem Jo{d:D}{l:List D}(hK:z.K=X.K)(h:dJ d=!l):CallD X z (.type "tuple") [d] (.dat (.tup l)):=by
 refine#[_,rN,λg Y J M H vs Q s p k=>?_]
 obtain⟨v,rfl,pv⟩:=p.one;have fin:∀xs,aH z.K M H l xs->∀p,H p=none->Q (.ref p) (upd H p (.tup xs)):=λxs r p hp=>
  k _ _ J M (s.laid hp) (aq.laid hp) (.tup (.inl #[s.fresh hp,.inl aE]) (r.stay (aq.laid hp)))
 cases d with
 |lst m=>symm;obtain⟨a,xs,rfl,ha,r⟩:=pv.list;exact#[a,xs,rfl,.inl #[cZ.of ha,fin xs r]]
 |fix m=>symm;obtain⟨a,xs,rfl,ha,r⟩:=pv.fix;exact#[a,xs,rfl,.inl #[hK▸ha.sq,fin xs r]]
 |tup m=>symm;obtain⟨a,xs,rfl,ha,r⟩:=pv.tup;exact#[a,xs,rfl,.inr #[hK▸ha.sq,k _ H J M s (aq.refl _ _) (.tup ha r)]]
 |_=>symm
theorem V3{i j:Int}(hc:X.calm=true):CallD X z (.builtin "max") [.int i,.int j] (.dat (.int (if j > i then j else i))):=by
 refine#[_,Ec hc,λg Y J M H vs Q s p k=>?_]
 obtain⟨v,w,rfl,p1,p2⟩:=p.two;exact#[i,j,by rw[p1.int,p2.int],k _ H J M s (aq.refl _ _) (.int _)]
theorem V4{i j:Int}(hc:X.calm=true):CallD X z (.builtin "min") [.int i,.int j] (.dat (.int (if j<i then j else i))):=by
 refine#[_,Ed hc,λg Y J M H vs Q s p k=>?_]
 obtain⟨v,w,rfl,p1,p2⟩:=p.two;exact#[i,j,by rw[p1.int,p2.int],k _ H J M s (aq.refl _ _) (.int _)]
end
section
theorem pG(hc:X.calm=true):eF X (.builtin "all") (λxs H Q=>∃(p:Addr) (bs:List Bool),xs=[.ref p]/\cZ X.K H p (bs.map V.bl)/\Q (.bl (bs.all id)) H):=by
 intro ah s Y H xs us Q I r h;obtain⟨p,bs,rfl,hp,q⟩:=h;obtain⟨u,rfl,rx⟩:=vals1 r;cases rx;obtain⟨its,rv,pl,hz⟩:=I.list hp;have hlt:p<s⁻¹:=by obtain⟨_,e,_⟩:=pl.isList;exact fN e
 have aJ:its.length=bs.length:=by rw[<- rv.length,d6]
 have up:∀b o,s.heap.get? b=!o->(s.heap.push { cls:=.type "list_iterator",data:=.fields ([.ref p,.int 0 0].toArray)}).get? b=!o:=λb o e=>dC _ e
 refine call_all_walk (AI pl.isList ?_);refine#[s⁻¹,_,_,_,_,_,λi=>bs.getD i true,rfl,Walks.list (show X.A.in1.handled=none from I.ok.hd hc) s⁻¹ p (kA hlt) its.toArray,#[#[_,eQ _ rfl,rfl,rfl],pl.isList.push _],?_,λh' tk hk=>?_]
 .
  intro i v s' Q' E' hv hq;have hv':its[i]?=!v:=by simpa using hv
  have hi:i<bs.length:=by rw[<- aJ];exact (dS.mp hv').1
  obtain⟨w,e1,e2⟩:=rv.get (i:=i) (x:=V.bl bs[i]) (by simp[hi])
  rw[hv']at e1;cases e1;cases e2;refine oQ ?_;have:bs.getD i true=bs[i]:=by simp[hi]
  rw[<- this];exact hq
 .
  have I1:L2.Inv X ah Y H { s with heap:=h',toks:=tk}:=I.kept λb o e=>hk b o (λhm=>by
   have:b=s⁻¹:=by simpa using hm
   exact absurd (fN e) (by rw[this];exact nS _)) (up b o e)
  refine#[.bl (bs.all id),H,I1,?_,q];have e:(List.range its.toArray.size).all (λi=>bs.getD i true)=bs.all id:=by
   rw[d5,aJ];rw[Bool.eq_iff_iff];simp only[hZ,lS];constructor
   . intro h b hb;obtain⟨j,hj⟩:=List.getElem?_of_mem hb;have hj':=(dS.mp hj).1;have:=h j hj';simpa [List.getD,hj]using this
   . intro h i hi;have:=h bs[i] (oP hi);simpa [List.getD,hi]using this
  rw[e];rfl
noncomputable def wD:List D->Option (List Bool)
 | []=>![]
 |.bl b::l=>match wD l with |some bs=>!(b::bs) |none=>none
 |_::_=>none
theorem Jp{K:Frag}{M:List Addr}{H:Hp}{l:List D}{xs:List V}{ns:List Bool}(q:aH K M H l xs)(e:wD l=!ns):xs=ns.map V.bl:=by
 induction l generalizing xs ns with
 |nil=>cases q;cases e;rfl
 |cons d l ih=>cases q with |cons r q=>cases d with
  |bl i=>
   have e:(match wD l with |some ns=>!(i::ns) |none=>none)=!ns:=e
   cases e2:wD l with
   |none=>rw[e2]at e;cases e
   |some ns=>rw[e2]at e;cases e;cases r;rw[List.map_cons,ih q e2]
  |_=>cases e
theorem V5{l:List D}{bs:List Bool}(hc:X.calm=true)(h:wD l=!bs):CallD X z (.builtin "all") [.lst l] (.dat (.bl (bs.all id))):=by
 refine#[_,pG hc,λg Y J M H vs Q s p k=>?_]
 obtain⟨v,rfl,pv⟩:=p.one;obtain⟨a,xs,rfl,ha,r⟩:=pv.list;have e:=Jp r h;subst e;exact#[a,bs,rfl,cZ.of ha,k _ H J M s (aq.refl _ _) (.bl _)]
end
noncomputable def Hu:D->String
 |.non=> "NoneType" |.bl _=> "bool" |.int _=> "int" |.str _=> "str" |.tup _=> "tuple" |.lst _=> "list" |.fix _=> "list" |.emp _=> "dict" |.Iv _=> "" |.S7 ..=> "dict"
def tyW:D->Value
 |.Iv C=>.ref C
 |d=>.type (Hu d)
theorem Et{M:Model}{A:Around}{E:Value->Shared->Prop}{K:Frag}{x C:Addr}{ox:Obj}{nv:Value}{Q:Unit->Shared->Prop}{s:Shared}(X:K.In s.heap)(I:PySem.W.InstAt s.heap x ox C none)(hb:PySem.W.mroIn K C (.type "BaseException")=!true)(hq:Q () s) :
  wpAny M A (checkBuiltinCall "BaseException.__getattribute__" #[[.ref x,nv],[]]) Q E s:=by
 have kd:builtinKind "BaseException.__getattribute__"=some .slot:=by decide +kernel
 have sd:splitId "BaseException.__getattribute__"=!("BaseException", "__getattribute__"):=by decide +kernel
 obtain⟨hv,ge,dr,tk,o'⟩:=s;have l0:=I.type (M:=M);have l1:=PySem.W.looks_mroIn (M:=M) X hb;simp only[checkBuiltinCall];refine aS (aS (l0.at (l1.at ?_)))
 repeat (any_goals (first |assumption |wp_step))
theorem Jq{prog:Program}{w:World}{A:Around}{E:Value->Shared->Prop}{K:Frag}{x C:Addr}{ox:Obj}{name:Str}{g a:Value}{Q:Option Value->Shared->Prop}{s:Shared}(X:K.In s.heap)(I:PySem.W.InstAt s.heap x ox C none)
  (hga:PySem.W.findIn K (.ref C) "__getattribute__"=!(!(.builtin "BaseException.__getattribute__"))) (hk:PySem.W.findIn K (.ref C) "__getattr__"=!none) (hb:PySem.W.mroIn K C (.type "BaseException")=!true) (hf:PySem.W.findObj K C none name=!(.bind g a))
  (h:wpAny (model prog w) A.in1 (call g [a,.ref x,.ref C]) (λv s'=>wpAny (model prog w) A (handedOut v) (λv s''=>Q (!v) s'') (λ_ _=>False) s') (λ_ _=>False) { s with toks:=s.toks+1}) :
  wpAny (model prog w) A (getAttr? (.ref x) name) Q E s:=by
 obtain⟨hv,ge,dr,tk,o'⟩:=s;have l0:=I.type (M:=model prog w);have l1:=PySem.W.looks_findIn (M:=model prog w) X hga;have l2:=PySem.W.looks_findIn (M:=model prog w) X hk;have l3:=PySem.W.looks_find (M:=model prog w) X I hf;have f3:=F.excAttr_ValueError.ga.bind (.ref x);refine aS (wpAny_mkText (aS (wpAny_attempt (l7 (aS (l0.at (aS (l1.at ?_))))))));refine aS (l2.at (aS (wpAny_attempt (l7 ?_))));show wpAny _ _ (boundAndCalled _ _ _) _ _ _;unfold boundAndCalled;refine aS (dA (wpAny_call (codeAny_call_builtin F.excAttr_ValueError.ga.plain F.entry_bexc_ga (Et X I hb ?_))));refine aS (dA (aS (dA (aS (l0.at (aS (l3.at ?_)))))));refine aS (l7 (mI h (λv s' z=>dA ?_) λ_ _ z=>z.elim))
 exact mI z (λv s'' hv=>dA hv) (λ_ _ z=>z.elim)
theorem lI{K:Frag}{C:Addr}(k:ExK K C):∃c d cd sl,K.lookup C=!#[c,d,.cls cd,sl]/\PySem.W.clsIn K C=!cd:=by
 obtain⟨cd,hc,_⟩:=PySem.W.any_some k.dct;have hc':=hc;unfold PySem.W.clsIn at hc;split at hc
 . rename_i c d cd' sl ho;cases hc;exact#[c,d,cd,sl,ho,hc']
 . cases hc
theorem Jr{K:Frag}{x C:Addr}(k:ExK K C):PySem.W.KitX K (.ref x) (.ref C) (λh=>∃ox,PySem.W.InstAt h x ox C none) where
 ty:=by rintro _ _ _ ⟨_,I⟩;exact I.type
 it:=λ_ _ X _=>by
  obtain⟨c,d,cd,sl,ho,_⟩:=lI k;intro A' Q' E' s' kp q;refine aS ?_;refine wpAny_loadPart (kp _ _ (X _ _ ho)) ?_;exact dA q
 ne:=λh tp dd its n sl X htp=>by
  obtain⟨c,d,cd,sl',ho,_⟩:=lI k;cases q:(Value.ref C==Value.ref tp)with
  |false=>rfl
  |true=>have e:=Value.ref.inj (beq_iff_eq.mp q);subst e;have y:=(X _ _ ho).symm.trans htp;cases y
 ca:=λ{prog w A E Q s} X #[ox,I] h=>by
  obtain⟨_,_,cd,_,_,hc⟩:=lI k;have hf:PySem.W.findObj K C none "__class__"=!(.bind (.builtin "getset_descriptor.__get__") (.builtin "object.__class__")):=by unfold PySem.W.findObj;rw[hc,k.cls];simp[k.spc,k.tks]
  refine Jq X I k.gga k.gat k.bas hf (wpAny_call ?_);exact PySem.W.class_get X I k.mro (PySem.W.handed_on rfl h)
section
theorem V6(I:L2.Inv X ah Y H s)(p:Pk X.K M H d v)(r:RelV v u)
  (e:PySem.W.kitOne X.K (tyW d) c=!b) (h:∀tk,Q (.bool b) { s with toks:=tk}):wpAny (~~~2) A (call (.builtin "isinstance") [u,c]) Q E s:=by
 cases d with
 |non=>have q:=p.non;subst q;cases r;exact t8 PySem.W.kitx_none I.yS True.intro e (λz=>nomatch z) h
 |bl y=>have q:=p.bl;subst q;cases r;exact t8 PySem.W.kitx_bool I.yS True.intro e (λz=>nomatch z) h
 |int i=>have q:=p.int;subst q;obtain⟨t,rfl⟩:=r;exact t8 PySem.W.kitx_int I.yS True.intro e (λz=>nomatch z) h
 |str y=>have q:=p.str;subst q;obtain⟨t,rfl⟩:=r;exact t8 PySem.W.kitx_str I.yS True.intro e (λz=>nomatch z) h
 |tup l=>obtain⟨a,xs,rfl,ha,_⟩:=p.tup;cases r;obtain⟨its,_,⟨o,h1,h2,_⟩,_⟩:=I.tuple ha.sq;exact t8 PySem.W.kitx_tuple I.yS #[o,h1,h2] e (λz=>nomatch z) h
 |lst l=>obtain⟨a,xs,rfl,ha,_⟩:=p.list;cases r;obtain⟨its,_,pl,_⟩:=I.list (cZ.of ha);obtain⟨o,h1,h2,_⟩:=pl.isList;exact t8 PySem.W.kitx_list I.yS #[o,h1,h2] e (λz=>nomatch z) h
 |fix l=>obtain⟨a,xs,rfl,ha,_⟩:=p.fix;cases r;obtain⟨its,_,pl,_⟩:=I.list ha.sq;obtain⟨o,h1,h2,_⟩:=pl.isList;exact t8 PySem.W.kitx_list I.yS #[o,h1,h2] e (λz=>nomatch z) h
 |emp m=>
  cases p with
  |of q=>
   cases q with
   |emp _ ha=>cases r;obtain⟨_,_,_,vs,_,o,es,ep,h1,h2,_⟩:=I.hok _ _ ha;exact t8 PySem.W.kitx_dict I.yS #[o,h1,h2.1] e (λz=>nomatch z) h
 |Iv C=>
  cases p with
  |of q=>
   cases q with
   |Iv k _ ha=>cases r;obtain⟨⟨o,h1,h2,h3,h4⟩,_⟩:=I.hok _ _ ha;exact t8 (Jr k) I.yS #[o,h1,h2,h3,by rw[h4];trivial] e (λz=>nomatch z) h
 |S7 ks ds=>
  cases p with
  |of q=>
   cases q with
   |S7 _ ha _ _=>cases r;obtain⟨_,_,vs,_,o,es,ep,h1,h2,_⟩:=I.hok _ _ ha;exact t8 PySem.W.kitx_dict I.yS #[o,h1,h2.1] e (λz=>nomatch z) h
theorem Js:eF X (.builtin "isinstance") (λxs H Q=>∃x n M d b,xs=[x,.ty n]/\Pk X.K M H d x/\PySem.W.kitOne X.K (tyW d) (.type n)=!b/\Q (.bl b) H):=by intro ah s Y H xs us Q I r h;obtain⟨x,n,M,d,b,rfl,p,e,q⟩:=h;obtain⟨u,w',rfl,r1,r2⟩:=vals2 r;cases r2;exact V6 I p r1 e λtk=>#[.bl b,H,I.tok tk,rfl,q]
theorem V7(hK:z.K=X.K)(h:aB X z a g r1 g1)(hp:pk r1 g1=!d)(he:∀M H v,Pk X.K M H d v->PySem.W.kitOne X.K (tyW d) (.type n)=!b)
  (hg:Gl X "isinstance") (hm:X.mg "isinstance"=none) (hv:bootBuiltins "isinstance"=!(.builtin "isinstance")) (gT:Gl X T) (mT:X.mg T=none) (vT:bootBuiltins T=!(.type n)) (nT:T≠ "__name__") (dT:(T==(~~~3))=false)
  (hs:starEach [a,.Name T pT] X.env=(false,eval a X.env)::starEach [.Name T pT] X.env):aB X z (.Call (.Name "isinstance" p) [a,.Name T pT] [] pos) g (.dat (.bl b)) g1:=by
 obtain⟨t,q,k⟩:=h;have pT':PE X (.Name T pT) (tC (.ty n)):=N6 gT mT vT rfl nT dT;refine#[_,oM Js hg hm hv (iA q (iA pT' lC) hs) ⋯ ⋯ hs,λY J M H Q s kk=>k Y J M H _ s λv H' aF M' s' st R=>?_]
 have p:=hK▸s'.pk (aq.refl _ _) R hp;exact#[v,n,M',d,b,rfl,p,he _ _ _ p,kk _ H' aF M' s' st (.bl b)]
end
inductive Fl where
 |nx |rt (r:R) |bk |ct
def pH(z:Z)(M:List Addr)(H:Hp)(E:Ends)(g':G):Fl->Prop
 |.nx=>∀σ' aF M' H',S z g' σ' aF M' H'->aq M H M' H'->E.nx σ' H'
 |.bk=>∀σ' aF M' H',S z g' σ' aF M' H'->aq M H M' H'->E.bk σ' H'
 |.ct=>∀σ' aF M' H',S z g' σ' aF M' H'->aq M H M' H'->E.ct σ' H'
 |.rt r=>∀v σ' aF M' H',S z g' σ' aF M' H'->aq M H M' H'->gQ z g' σ' aF M' H' r v->E.rt v H'
def jy(X:Cx)(z:Z)(st:Stmt)(g:G)(f:Fl)(g':G):Prop:=
 ∃t,PS X st t/\∀Y J M H E,S z g Y J M H->pH z M H E g' f->t E Y H
def fz(X:Cx)(z:Z)(vM:List Stmt)(g:G)(f:Fl)(g':G):Prop:=
 ∃t,vN X vM t/\∀Y J M H E,S z g Y J M H->pH z M H E g' f->t E Y H
section
variable{st:Stmt}
theorem pH.trans(st:aq M H M1 H1)(h:pH z M H E g' f):pH z M1 H1 E g' f:=by
 cases f with
 |nx=>exact λσ' aF M' H' s' st'=>h σ' aF M' H' s' (st.trans st')
 |bk=>exact λσ' aF M' H' s' st'=>h σ' aF M' H' s' (st.trans st')
 |ct=>exact λσ' aF M' H' s' st'=>h σ' aF M' H' s' (st.trans st')
 |rt r=>exact λv σ' aF M' H' s' st' R=>h v σ' aF M' H' s' (st.trans st') R
theorem V8:fz X z [] g .nx g:=#[_,N7,λY J M H E s k=>k Y J M H s (aq.refl _ _)]
theorem Ph(h1:jy X z st g .nx g1)(h2:fz X z vM g1 f g2):fz X z (st::vM) g f g2:=by obtain⟨t1,q1,k1⟩:=h1;obtain⟨t2,q2,k2⟩:=h2;exact#[_,gJ q1 q2,λY J M H E s k=>k1 Y J M H _ s λσ' aF M' H' s' st'=>k2 σ' aF M' H' E s' (k.trans st')]
theorem V9(h1:jy X z st g (.rt r) g1):fz X z (st::vM) g (.rt r) g1:=by obtain⟨t1,q1,k1⟩:=h1;exact#[_,gJ q1 eU,λY J M H E s k=>k1 Y J M H _ s k]
theorem Wa(h1:jy X z st g .bk g1):fz X z (st::vM) g .bk g1:=by obtain⟨t1,q1,k1⟩:=h1;exact#[_,gJ q1 eU,λY J M H E s k=>k1 Y J M H _ s k]
theorem Wc(h1:jy X z st g .ct g1):fz X z (st::vM) g .ct g1:=by obtain⟨t1,q1,k1⟩:=h1;exact#[_,gJ q1 eU,λY J M H E s k=>k1 Y J M H _ s k]
theorem Wd(h:aB X z e g r g1):jy X z (.Return (!e) pos) g (.rt r) g1:=by obtain⟨t,q,k⟩:=h;exact#[_,HQ q,λY J M H E s kk=>k Y J M H _ s λv H' aF M' s' st R=>kk v Y aF M' H' s' st R]
theorem Pj(h:aB X z e g r g1)(hs:swapsWith e none pos.line X.env=pure false):jy X z (.Expr e pos) g .nx g1:=by obtain⟨t,q,k⟩:=h;exact#[_,Bp q hs,λY J M H E s kk=>k Y J M H _ s λv H' aF M' s' st R=>kk Y aF M' H' s' st]
theorem Td(h:dz X z c g v g1)(h2:fz X z (if v then a else b) g1 f g2):jy X z (.If c a b pos) g f g2:=by
 obtain⟨t,q,k⟩:=h;obtain⟨t2,q2,k2⟩:=h2;cases v with
 |true=>exact#[_,SX q q2 eU,λY J M H E s kk=>k Y J M H _ s λH' aF M' s' st=>kr (k2 Y aF M' H' E s' (kk.trans st))]
 |false=>exact#[_,SX q eU q2,λY J M H E s kk=>k Y J M H _ s λH' aF M' s' st=>oY (k2 Y aF M' H' E s' (kk.trans st))]
theorem Pp(hN:X.N.Nodup)(hi:X.N[i]?=!x)(hx:Loc X.env.scope x)(h:aB X z e g (.dat d) g1)(hs:swapsWith e (!(.Name x pos')) pos.line X.env=pure false)(hf:X.fn x=true\/X.env.scope.names.lookup x=some .local)(hb:i∉z.bor) :
  jy X z (.Assign [.Name x pos'] e pos) g .nx (g1.set i (.dat d)):=by
 obtain⟨t,q,k⟩:=h;refine#[_,HW hN hi hx q hs hf,λY J M H E s kk=>k Y J M H _ s λv H' aF M' s' st R=>?_]
 obtain⟨bI,s2⟩:=s'.jK hb R;exact kk _ bI M' H' s2 st
theorem Pq(hN:X.N.Nodup)(hi:X.N[i]?=!x)(hx:Loc X.env.scope x)(h:aB X z e g (.new l) g1)(hl:i<g1.length)(hs:swapsWith e (!(.Name x pos')) pos.line X.env=pure false)(hf:X.fn x=true\/X.env.scope.names.lookup x=some .local)(hb:i∉z.bor) :
  jy X z (.Assign [.Name x pos'] e pos) g .nx (g1.set i (.own l)):=by
 obtain⟨t,q,k⟩:=h;refine#[_,HW hN hi hx q hs hf,λY J M H E s kk=>k Y J M H _ s λv H' aF M' s' st R=>?_]
 obtain⟨a,xs,rfl,hm,hA,h0,ha,rr⟩:=R;obtain⟨bI,s2⟩:=s'.o7 hb hl hm hA h0 ha rr;exact kk _ bI M' H' s2 st
end
def tAny(X:Cx)(vM:List Stmt):TS:=λE Y H=>∃t,vN X vM t/\t E Y H
theorem BL{X:Cx}{vM:List Stmt}:vN X vM (tAny X vM):=λah s Y H E I h=>let #[t,q,k]:=h;q ah s Y H E I k
section
theorem drop_cons{α:Type}{l:List α}{n:Nat}{a:α}(h:l[n]?=!a):l.drop n=a::l.drop (n+1):=by obtain⟨h1,h2⟩:=dS.mp h;rw[List.drop_eq_getElem_cons h1,h2]
end
noncomputable def bQ(lo:Int)(n:Nat):List D:=(List.range n).map λ(k:Nat)=>D.int (lo+(k:Int))
section
theorem Ju{lo:Int}{n k:Nat}(h:k<n):(bQ lo n)[k]?=!(.int (lo+(k:Int))):=by unfold bQ;rw[l6,Bn h];rfl
theorem wF{lo:Int}{n:Nat}:(bQ lo n).length=n:=by unfold bQ;simp
theorem Eu(h:dB X z [a] g [‹j›] g1)(hg:Gl X "range")(hm:X.mg "range"=none)(hs:starEach [a] X.env=[(false,eval a X.env)])(h1 : -(2 ^ 62)<=j)(h2:j<2 ^ 62) :
  ∃wi,PI X tg (.Call (.Name "range" p) [a] [] rp) wi/\∀Y J M H (Q:It->Hp->Prop),S z g Y J M H->(∀H' aF M',S z g1 Y aF M' H'->aq M H M' H'->Q (UJ 0 j.toNat) H')->wi Y H Q:=by
 obtain⟨t,q,k⟩:=h;refine#[_,sy hg hm q hs,λY J M H Q s kk=>k Y J M H _ s λvs H' aF M' s' st R=>?_]
 cases R with
 |dat r R=>cases R;cases r;exact#[j,rfl,h1,h2,kk H' aF M' s' st]
theorem Ew(h:dB X z [a,b] g [‹c›,‹j›] g1)(hg:Gl X "range")(hm:X.mg "range"=none)(hs:starEach [a,b] X.env=[(false,eval a X.env),(false,eval b X.env)])(hs2:starEach [b] X.env=[(false,eval b X.env)])
  (h1 : -(2 ^ 62)<=c/\c<2 ^ 62/\-(2 ^ 62)<=j/\j<2 ^ 62) {tg:Expr} :
  ∃wi,PI X tg (.Call (.Name "range" p) [a,b] [] rp) wi/\∀Y J M H (Q:It->Hp->Prop),S z g Y J M H->(∀H' aF M',S z g1 Y aF M' H'->aq M H M' H'->Q (UJ c (j - c).toNat) H')->wi Y H Q:=by
 obtain⟨t,q,k⟩:=h;refine#[_,Ea hg hm q hs hs2,λY J M H Q s kk=>k Y J M H _ s λvs H' aF M' s' st R=>?_]
 cases R with
 |dat r R=>cases R with |dat r2 R=>cases R;cases r;cases r2;exact#[c,j,rfl,h1,kk H' aF M' s' st]
end
section
theorem Ey(hN:X.N[i]?=!x)(hv:oH X.env.scope x)(hd:(x==(~~~3))=false)(ie:(x==("__classdict__":Str))=false)(hg:g[i]?=!(.own l0))(h:dB X z [e] g [.dat d] g1)(pJ:g1[i]?=!(.own l))(hl:l.length<16777216)
  (hbase:attributeBase (.Name x pn) "append" X.env (eval (.Name x pn) X.env)=eval (.Name x pn) X.env)
  (hline:(nW.endLine==j7.line)=true) (hs:starEach [e] X.env=(false,eval e X.env)::starEach [] X.env):aB X z (.Call (.Attribute (.Name x pn) "append" nW) [e] [] j7) g (.dat .non) (g1.set i (.own (l++[d]))):=by
 obtain⟨t,q,k⟩:=h;refine#[_,Bx AR PySem.F.slot_list_append PySem.F.type_list_append lD (d7 hN hv hd ie) q hbase (by rw[hs];rfl) hline hs rfl,λY J M H Q s kk=>?_]
 obtain⟨a,xs,e1,e2,e3,e4⟩:=s.sl.at hg;refine#[.ref a,e1,.inl #[rfl,xs,cZ.of e3],k Y J M H _ s λvs H' aF M' s' st R=>?_]
 obtain⟨b,ys,f1,f2,f3,f4⟩:=s'.sl.at pJ;rw[e1]at f1;injection f1 with f1;injection f1 with f1;injection f1 with f1;subst f1;cases R with
 |dat r R=>
  cases R;refine#[a,ys,_,rfl,rfl,f3,by rw[<- f4.length];exact hl,?_]
  obtain⟨s2,aK⟩:=s'.write pJ e1 (f4.append (.cons r .nil));exact kk _ _ aF M' s2 (st.trans aK) .non
end
section
theorem Pu(hN:X.N[i]?=!x)(hv:oH X.env.scope x)(hd:(x==(~~~3))=false)(ie:(x==("__classdict__":Str))=false)(h:aB X z e g (.dat d) g1)(pJ:g1[i]?=!(.own l0))(h2:aB X z ix g1 ‹k› g2)(hg2:g2[i]?=!(.own l))(hj:rL l.length k=!j)
  (ha:∀v,assign (.Subscript (.Name x pn) ix gG) X.env v=(do
   let ov <- holding [v] (eval (.Name x pn) X.env)
   let iv <- holding [v,ov] (eval ix X.env)
   standAt gG
   holding [v,ov,iv] (setItem ov iv v)
   release [v,ov,iv] []))
  (hs:swapsWithSole [.Subscript (.Name x pn) ix gG] e pos.line X.env=pure false) (hw:swappedStores [.Subscript (.Name x pn) ix gG] e X.env=pure none)
  (h1:(assignEach [.Subscript (.Name x pn) ix gG] X.env).map (·.2)=[assign (.Subscript (.Name x pn) ix gG) X.env]) :
  jy X z (.Assign [.Subscript (.Name x pn) ix gG] e pos) g .nx (g2.set i (.own (l.set j d))):=by
 obtain⟨t,q,kk⟩:=h;obtain⟨t2,q2,k2⟩:=h2;refine#[_,HS q (Uy (d7 hN hv hd ie) q2 set_list ha) hs hw h1,λY J M H E s kE=>kk Y J M H _ s λv H1 bx M1 s1 fP R1=>?_]
 obtain⟨a,xs,e1,e2,e3,e4⟩:=s1.sl.at pJ;refine#[.ref a,e1,k2 Y bx M1 H1 _ s1 λw H2 bI M2 s2 aK R2=>?_]
 obtain⟨b,ys,f1,f2,f3,f4⟩:=s2.sl.at hg2;rw[e1]at f1;injection f1 with f1;injection f1 with f1;injection f1 with f1;subst f1;have R2':=R2;cases R2';refine#[a,ys,k,j,rfl,rfl,f3,by rw[<- f4.length];exact hj,?_]
 obtain⟨s3,dZ⟩:=s2.write hg2 e1 (aH.set (Rep.stay aK R1) j f4);exact kE Y bI M2 _ s3 (fP.trans (aK.trans dZ))
theorem aH.eraseIdx{K:Frag}{M:List Addr}{H:Hp}:∀{ds:List D}{vs:List V} (n:Nat),aH K M H ds vs->aH K M H (ds.eraseIdx n) (vs.eraseIdx n)
 |_,_,_,.nil=>.nil
 |_,_,0,.cons _ t=>t
 |_,_,n+1,.cons r t=>.cons r (aH.eraseIdx n t)
theorem Jv(hN:X.N[i]?=!x)(hv:oH X.env.scope x)(hd:(x==(~~~3))=false)(ie:(x==("__classdict__":Str))=false)(hg:g[i]?=!(.own l0))(h:dB X z [e] g [‹k›] g1)(pJ:g1[i]?=!(.own l))(hk:rL l.length k=!j)(hy:l[j]?=!d)(hl:l.length<16777216)
  (hbase:attributeBase (.Name x pn) "pop" X.env (eval (.Name x pn) X.env)=eval (.Name x pn) X.env)
  (hline:(nW.endLine==j7.line)=true) (hs:starEach [e] X.env=(false,eval e X.env)::starEach [] X.env):aB X z (.Call (.Attribute (.Name x pn) "pop" nW) [e] [] j7) g (.dat d) (g1.set i (.own (l.eraseIdx j))):=by
 obtain⟨t,q,k0⟩:=h;refine#[_,Bx AR PySem.F.slot_list_pop PySem.F.type_list_pop Il (d7 hN hv hd ie) q hbase (by rw[hs];rfl) hline hs rfl,λY J M H Q s kk=>?_]
 obtain⟨a,xs,e1,e2,e3,e4⟩:=s.sl.at hg;refine#[.ref a,e1,.inl #[rfl,xs,cZ.of e3],k0 Y J M H _ s λvs H' aF M' s' st R=>?_]
 obtain⟨b,ys,f1,f2,f3,f4⟩:=s'.sl.at pJ;rw[e1]at f1;injection f1 with f1;injection f1 with f1;injection f1 with f1;subst f1;cases R with
 |dat r R=>
  cases R;cases r;obtain⟨h1,h2,h3,h4⟩:=uB hk;obtain⟨v,g1',Te⟩:=f4.get hy;obtain⟨s2,aK⟩:=s'.write pJ e1 (aH.eraseIdx j f4);refine#[a,ys,k,j,v,rfl,rfl,f3,by lia,by lia,by rw[<- f4.length];exact h1,g1',?_]
  exact kk _ _ aF M' s2 (st.trans aK) (Te.stay aK)
end
noncomputable def dF:List R->G->Option G
 | [],_=>![]
 |.dat d::rs,g=>match dF rs g with |some gs=>!(.dat d::gs) |none=>none
 |.var i::rs,g=>match g[i]? with
  |!(.own l)=>match dF rs g with |some gs=>!(.own l::gs) |none=>none
  |_=>none
 |.new _::_,_=>none
noncomputable def vars:Nat->List R->List (Nat×Nat)
 |_,[]=>[]
 |j,.var i::rs=>(j,i)::vars (j+1) rs
 |j,.dat _::rs=>vars (j+1) rs
 |j,.new _::rs=>vars (j+1) rs
noncomputable def back:List (Nat×Nat)->G->G->Option G
 | [],_,g=>!g
 | (j,i)::ps,gc,g=>match gc[j]? with
  |!(.own l)=>back ps gc (g.set i (.own l))
  |_=>none
def jM(bor:List Nat)(g':G):R->Option R
 |.dat d=>!(.dat d)
 |.new l=>!(.new l)
 |.var j=>if j∈bor then none else match g'[j]? with |!(.own l)=>!(.new l) |_=>none
noncomputable def adr(Y:Sg)(i:Nat):Addr:=match Y[i]? with |!(!(.ref a))=>a |_=>0
theorem jN(h:Y[i]?=!(!(.ref a))):adr Y i=a:=by unfold adr;rw[h]
def cM(Y:Sg)(ps:List (Nat×Nat)):List (Nat×Addr):=ps.map λp=>(p.1,adr Y p.2)
noncomputable def fB(n:Nat)(gs:G):G:=gs++List.replicate (n - gs.length) .no
theorem Slots.append{K:Frag}{M:List Addr}{H:Hp}{g1 g2:G}{σ1 σ2:Sg}{A1 A2:List Addr}(p:Slots K M H g1 σ1 A1)(q:Slots K M H g2 σ2 A2):Slots K M H (g1++g2) (σ1++σ2) (A1++A2):=by
 induction p with
 |nil=>exact q
 |no p ih=>exact .no ih
 |dat r p ih=>exact .dat r ih
 |own e r p ih=>exact .own e r ih
theorem Slots.nos{K:Frag}{M:List Addr}{H:Hp}:∀(n:Nat),Slots K M H (List.replicate n .no) (List.replicate n none) []
 | 0=>.nil
 |n+1=>by rw[y6];exact .no (Slots.nos n)
section
theorem Slots.BP{K:Frag}{g:G}{Y:Sg}{J:List Addr}{i j:Nat}{a:Addr}{l l':List D}(q:Slots K M H g Y J)(nd:J.Nodup)(e1:g[i]?=!(.own l))(e2:g[j]?=!(.own l'))(e3:Y[i]?=!(!(.ref a)))(e4:Y[j]?=!(!(.ref a))):i=j:=by
 induction q generalizing i j with
 |nil=>exact nomatch (show none=!(Slot.own l)from e1)
 |no q ih=>cases i with
  |zero=>exact nomatch (show some Slot.no=!(Slot.own l)from e1)
  |succ i=>cases j with
   |zero=>exact nomatch (show some Slot.no=!(Slot.own l')from e2)
   |succ j=>exact congrArg (· + 1) (ih nd e1 e2 e3 e4)
 |dat r q ih=>cases i with
  |zero=>exact nomatch (show some (Slot.dat _)=!(Slot.own l)from e1)
  |succ i=>cases j with
   |zero=>exact nomatch (show some (Slot.dat _)=!(Slot.own l')from e2)
   |succ j=>exact congrArg (· + 1) (ih nd e1 e2 e3 e4)
 |@own g Y J b xs ds h r q ih=>
  have no:∀{i:Nat}{l:List D},g[i]?=!(.own l)->Y[i]?=!(!(.ref a))->b=a->False:=λ{i l} e1 e3 e=>by
   obtain⟨c,xs,h1,h2,_⟩:=q.at e1;cases (show some (!(V.ref c))=!(!(V.ref a))from h1.symm.trans e3)
   exact (gN.mp nd).1 (e▸h2)
  cases i with
  |zero=>cases j with
   |zero=>rfl
   |succ j=>cases (show some (!(V.ref b))=!(!(V.ref a))from e3);exact (no e2 e4 rfl).elim
  |succ i=>cases j with
   |zero=>cases (show some (!(V.ref b))=!(!(V.ref a))from e4);exact (no e1 e3 rfl).elim
   |succ j=>exact congrArg (· + 1) (ih (gN.mp nd).2 e1 e2 e3 e4)
theorem pK(s:S z g Y J M H)(j:Nat)(q:jL z Y M H rs vs)(e:dF rs g=!gs) :
  gs.length=vs.length/\Slots z.K M H gs (vs.map some) ((cM Y (vars j rs)).map (·.2))/\
  (∀p∈cM Y (vars j rs),∃n l,p.1=j+n/\gs[n]?=!(.own l)/\vs[n]?=!(.ref p.2))/\
  (∀n l a,gs[n]?=!(.own l)->vs[n]?=!(.ref a)->(j+n,a)∈cM Y (vars j rs))/\
  (∀p∈vars j rs,∃l a,g[p.2]?=!(.own l)/\Y[p.2]?=!(!(.ref a))/\a∈J):=by
 induction q generalizing gs j with
 |nil=>cases e;exact#[rfl,.nil,(λp hp=>nomatch hp),(λn l a h=>by simp at h),(λp hp=>nomatch hp)]
 |@dat d v rs vs r q ih=>
  unfold dF at e;cases e2:dF rs g with
  |none=>rw[e2]at e;cases e
  |some gs=>
   rw[e2]at e;cases e;obtain⟨h1,h2,h3,h4,h5⟩:=ih (j+1) e2;refine#[by simp[h1],.dat r h2,λp hp=>?_,λn l a e1 e3=>?_,h5]
   . obtain⟨n,l,q1,q2,q3⟩:=h3 p hp;exact#[n+1,l,by lia,by simpa using q2,by simpa using q3]
   .
    cases n with
    |zero=>simp at e1
    |succ n=>
     have:=h4 n l a (by simpa using e1) (by simpa using e3)
     rw[show j+(n+1)=j+1+n by lia]
     exact this
 |@var i v rs vs r q ih=>
  unfold dF at e;split at e
  .
   rename_i l hg;cases e2:dF rs g with
   |none=>rw[e2]at e;cases e
   |some gs=>
    rw[e2]at e;cases e;obtain⟨h1,h2,h3,h4,h5⟩:=ih (j+1) e2;obtain⟨a,xs,f1,f2,f3,f4⟩:=s.sl.at hg;have ea:=jN f1;rw[r]at f1;injection f1 with f1;injection f1 with f1;subst f1;have el:cM Y (vars j (.var i::rs))=(j,a)::cM Y (vars (j+1) rs):=by show (j,adr Y i)::cM Y (vars (j+1) rs)=_;rw[ea]
    rw[el];refine#[by simp[h1],.own f3 f4 h2,λp hp=>?_,λn l' b e1 e3=>?_,λp hp=>?_]
    .
     rcases eJ.mp hp with rfl |hp
     . exact#[0,l,rfl,rfl,rfl]
     . obtain⟨n,l,q1,q2,q3⟩:=h3 p hp;exact#[n+1,l,by lia,by simpa using q2,by simpa using q3]
    .
     cases n with
     |zero=>
      have e4:a=b:=by simpa using e3
      subst e4;exact b0
     |succ n=>
      have:=h4 n l' b (by simpa using e1) (by simpa using e3)
      rw[show j+(n+1)=j+1+n by lia]
      exact bP _ this
    .
     rcases eJ.mp (show p∈(j,i)::vars (j+1) rs from hp)with rfl |hp
     . exact#[l,a,hg,r,f2]
     . exact h5 p hp
  . cases e
theorem sM{α β:Type}{f:α->β}:∀{l:List α},l.Nodup->(∀a∈l,∀b∈l,f a=f b->a=b)->(l.map f).Nodup
 | [],_,_=>qS
 |x::l,nd,h=>by
  refine gN.mpr #[λhm=>?_,sM (gN.mp nd).2 λa ha b hb=>h a (bP _ ha) b (bP _ hb)]
  obtain⟨y,hy,e⟩:=eC.mp hm;have:=h y (bP _ hy) x b0 e;exact (gN.mp nd).1 (this▸hy)
def wG(z:Z)(Y:Sg)(M:List Addr)(H:Hp)(rs:List R):Z:=#[z.K,H,M,cM Y (vars 0 rs),z.T]
theorem sN:(wG z Y M H rs).bor=(vars 0 rs).map (·.1):=by show (cM Y (vars 0 rs)).map (·.1)=_;unfold cM;rw[List.map_map];rfl
theorem S.enter(s:S z g Y J M H){rs:List R}{vs:List V}{gs:G}{N:List Str}(r:jL z Y M H rs vs)(e:dF rs g=!gs)(nd:((vars 0 rs).map (·.2)).Nodup) :
  S (wG z Y M H rs) (fB N.length gs) (start N vs) ((cM Y (vars 0 rs)).map (·.2)) M H:=by
 obtain⟨h1,h2,h3,h4,h5⟩:=pK s 0 r e;have eB:(cM Y (vars 0 rs)).map (·.2)=((vars 0 rs).map (·.2)).map (adr Y):=by unfold cM;rw[List.map_map,List.map_map];rfl
 have mem:∀b∈(cM Y (vars 0 rs)).map (·.2),b∈J:=λb hb=>by
  obtain⟨i,hi,e⟩:=eC.mp hb;obtain⟨p,hp,e'⟩:=eC.mp hi;obtain⟨l,a,q1,q2,q3⟩:=h5 p hp;subst e';rw[jN q2]at e;subst e;exact q3
 have pre:∀{n:Nat}{o:Slot},gs[n]?=!o->(fB N.length gs)[n]?=!o:=λ{n o} q=>by
  unfold fB;rw[dL (dS.mp q).1];exact q
 have ownB:∀(n:Nat) (l:List D),(fB N.length gs)[n]?=!(.own l)->gs[n]?=!(.own l):=λn l q=>by
  unfold fB at q;rcases u4 n gs.length with h |h
  . rw[dL h]at q;exact q
  . rw[eI h]at q;have:=i8 q;rw[w9]at this;exact absurd this.2 ⋯
 have st:∀{n:Nat}{v:V},vs[n]?=!v->(start N vs)[n]?=!(!v):=λ{n v} q=>by
  unfold L2.start;rw[dL (by rw[d6];exact (dS.mp q).1),l6,q]
  rfl
 have st':∀{n:Nat}{v:V},(start N vs)[n]?=!(!v)->vs[n]?=!v:=λ{n v} q=>by
  unfold L2.start at q;rcases u4 n vs.length with h |h
  .
   rw[dL (by rw[d6];exact h),l6]at q
   cases e:vs[n]? with
   |none=>rw[e]at q;cases q
   |some w=>rw[e]at q;injection q with q
  .
   rw[eI (by rw[d6];exact h)]at q
   have:=i8 q;rw[w9]at this;exact absurd this.2 ⋯
 refine#[?_,?_,λa ha=>s.sub a (mem a ha),λn a l q1 q2=>.inl ?_,s.live,λb o e _ _=>e,λm hm=>hm,λm hm=>?_,λb hb=>s.sub b (mem b hb),λp hp=>?_,s.tab,λp hp=>s.j8 _ (s.tm p hp),s.tt]
 .
  have q:=h2.append (Slots.nos (N.length - gs.length));rw[n0]at q;have e':start N vs=vs.map some++List.replicate (N.length - gs.length) none:=by unfold L2.start;rw[h1]
  rw[e'];exact q
 .
  rw[eB];refine sM nd λi hi j hj e=>?_
  obtain⟨p,hp,rfl⟩:=eC.mp hi;obtain⟨p',pL,rfl⟩:=eC.mp hj;obtain⟨l,a,q1,q2,q3⟩:=h5 p hp;obtain⟨l',a',lG,uK,BR⟩:=h5 p' pL;rw[jN q2,jN uK]at e;subst e;exact s.sl.BP s.nd q1 lG q2 uK
 . have hm:=h4 n l a (ownB n l q1) (st' q2);rw[AB]at hm;exact#[v3 hm,v3 hm]
 . exact λe=>s.fresh e hm
 . obtain⟨n,l,q1,q2,q3⟩:=h3 p hp;rw[AB]at q1;rw[q1];exact#[st q3,l,pre q2]
theorem Slots.transfer{K:Frag}{M M2:List Addr}{H H':Hp}(st:aq M H M2 H'){g g2:G}{Y:Sg}{J:List Addr}(q:Slots K M H g Y J)(hl:g2.length=g.length)
  (h1:∀(i:Nat) (l:List D) (a:Addr),g[i]?=!(.own l)->Y[i]?=!(!(.ref a))->∃l' xs',g2[i]?=!(.own l')/\H' a=!(.lst xs')/\aH K M2 H' l' xs')
  (h2:∀(i:Nat) (o:Slot),g[i]?=!o->(∀l,o≠.own l)->g2[i]?=!o):Slots K M2 H' g2 Y J:=by
 induction q generalizing g2 with
 |nil=>cases g2 with
  |nil=>exact .nil
  |cons a b=>cases hl
 |no q ih=>cases g2 with
  |nil=>cases hl
  |cons a b=>
   cases (show some a=!Slot.no from h2 0 .no rfl (λl z=>nomatch z))
   exact .no (ih (B0 hl) (λi l a e1 e2=>h1 (i+1) l a e1 e2) λi o e1 e2=>h2 (i+1) o e1 e2)
 |@dat g Y J v d r q ih=>cases g2 with
  |nil=>cases hl
  |cons a b=>
   cases (show some a=!(Slot.dat d)from h2 0 (.dat d) rfl (λl z=>nomatch z))
   exact .dat (r.stay st) (ih (B0 hl) (λi l a e1 e2=>h1 (i+1) l a e1 e2) λi o e1 e2=>h2 (i+1) o e1 e2)
 |@own g Y J a0 xs ds e0 r q ih=>cases g2 with
  |nil=>cases hl
  |cons a b=>
   obtain⟨l',xs',e1,e2,e3⟩:=h1 0 _ a0 rfl rfl;cases (show some a=!(Slot.own l')from e1)
   exact .own e2 e3 (ih (B0 hl) (λi l a e1 e2=>h1 (i+1) l a e1 e2) λi o e1 e2=>h2 (i+1) o e1 e2)
theorem sO:∀{ps:List (Nat×Nat)}{g gO:G},back ps gc g=!gO->(ps.map (·.2)).Nodup->gO.length=g.length/\
  (∀i,i∉ps.map (·.2)->gO[i]?=g[i]?)/\∀p∈ps,p.2<g.length->∃l,gc[p.1]?=!(.own l)/\gO[p.2]?=!(.own l)
 | [],g,gO,e,_=>by cases e;exact#[rfl,λ_ _=>rfl,λp hp=>nomatch hp]
 | (j,i)::ps,g,gO,e,nd=>by
  unfold back at e;split at e
  .
   rename_i l hg;obtain⟨h1,h2,h3⟩:=sO e (gN.mp nd).2;refine#[by rw[h1,l8],λk hk=>?_,λp hp hlt=>?_]
   .
    have n1:k∉ps.map (·.2):=λz=>hk (bP _ z)
    have n2:i≠k:=λz=>hk (z▸b0)
    rw[h2 k n1,fR n2]
   .
    rcases eJ.mp hp with rfl |hp
    . refine#[l,hg,?_];have hlt':=hlt;rw[h2 i (gN.mp nd).1,gL hlt']
    . exact h3 p hp (by rw[l8];exact hlt)
  . cases e
theorem S.leave(s:S z g Y J M H){rs:List R}{vs:List V}{gs gc gO:G}{σc:Sg}{Ac Mc:List Addr}{Hc:Hp}{r r':R}{v:V}(rw':jL z Y M H rs vs)(e:dF rs g=!gs)(nd:((vars 0 rs).map (·.2)).Nodup)
  (sc:S (wG z Y M H rs) gc σc Ac Mc Hc) (st:aq M H Mc Hc) (q:gQ (wG z Y M H rs) gc σc Ac Mc Hc r v) (hb:back (vars 0 rs) gc g=!gO) (hr:jM ((vars 0 rs).map (·.1)) gc r=!r') :
  ∃M2,S z gO Y J M2 Hc/\aq M H M2 Hc/\gQ z gO Y J M2 Hc r' v:=by
 obtain⟨h1,h2,h3,h4,h5⟩:=pK s 0 rw' e;obtain⟨b1,b2,b3⟩:=sO hb nd;have hM:=sc.j8;have core:∀M2:List Addr,(∀m∈M,m∈M2)->(∀m∈M2,m∈Mc)->aq M H M2 Hc->S z gO Y J M2 Hc:=by
  intro M2 m1 m2 aK;refine#[s.sl.transfer aK b1 (λi l a e1 e2=>?_) (λi o e1 e2=>?_),s.nd,λa ha=>m1 a (s.sub a ha),λi a l e1 e2=>?_,λm hm=>sc.live m (m2 m hm),λb o e1 e2 et=>?_,λm hm=>m1 m (s.j8 m hm),s.m0,s.bm,λp hp=>#[(s.jw p hp).1,?_],sc.tab,s.tm,s.tt]
  .
   by_cases hi:i∈(vars 0 rs).map (·.2)
   . obtain⟨p,hp,rfl⟩:=eC.mp hi;obtain⟨l',q1,q2⟩:=b3 p hp (dS.mp e1).1;have hl:(p.1,adr Y p.2)∈cM Y (vars 0 rs):=v3 hp;obtain⟨c1,c2⟩:=sc.jw _ hl;obtain⟨a',xs,d1,d2,d3,d4⟩:=sc.sl.at q1;rw[c1]at d1;injection d1 with d1;injection d1 with d1;injection d1 with d1;rw[jN e2]at d1;subst d1;exact#[l',xs,q2,d3,aH.stay (aq.less m2) d4]
   .
    obtain⟨a',xs,d1,d2,d3,d4⟩:=s.sl.at e1;rw[e2]at d1;injection d1 with d1;injection d1 with d1;injection d1 with d1;subst d1;refine#[l,xs,by rw[b2 i hi];exact e1,sc.keep a _ d3 (λhB=>?_) (s.notab d3),d4.stay aK]
    obtain⟨p,hp,ep⟩:=eC.mp (show a∈(cM Y (vars 0 rs)).map (·.2)from hB);obtain⟨p',pL,rfl⟩:=eC.mp hp;obtain⟨l2,a2,q1,q2,q3⟩:=h5 p' pL;have vU:=ep;rw[jN q2]at vU;subst vU;have:=s.sl.BP s.nd e1 q1 e2 q2;exact hi (this▸v3 pL)
  .
   refine (b2 i λhi=>?_).trans e1
   obtain⟨p,hp,rfl⟩:=eC.mp hi;obtain⟨l2,a2,q1,q2,q3⟩:=h5 p hp;rw[e1]at q1;injection q1 with q1;exact e2 l2 q1
  .
   by_cases hi:i∈(vars 0 rs).map (·.2)
   . obtain⟨p,hp,rfl⟩:=eC.mp hi;obtain⟨l2,a2,q1,q2,q3⟩:=h5 p hp;exact s.own p.2 a l2 q1 e2
   . rw[b2 i hi]at e1;exact s.own i a l e1 e2
  .
   have e3:=s.keep b o e1 e2 et;refine sc.keep b o e3 (λhB=>?_) et
   obtain⟨p,hp,ep⟩:=eC.mp (show b∈(cM Y (vars 0 rs)).map (·.2)from hB);obtain⟨p',pL,rfl⟩:=eC.mp hp;obtain⟨l2,a2,q1,q2,q3⟩:=h5 p' pL;have vU:=ep;rw[jN q2]at vU;subst vU;rcases s.own p'.2 a2 l2 q1 q2 with w |w
   . exact e2 w.2
   . rw[w]at e1;cases e1
  .
   by_cases hi:p.1∈(vars 0 rs).map (·.2)
   . obtain⟨p',pL,e'⟩:=eC.mp hi;have e'':=e';obtain⟨l2,a2,q1,q2,q3⟩:=h5 p' pL;obtain⟨l',lG,uK⟩:=b3 p' pL (dS.mp q1).1;exact#[l',by rw[<- e''];exact uK]
   . rw[b2 p.1 hi];exact (s.jw p hp).2
 have new:∀(a:Addr) (xs:List V) (l:List D),v=.ref a->a∈Mc->H a=none->Hc a=!(.lst xs)->aH z.K Mc Hc l xs->∃M2,S z gO Y J M2 Hc/\aq M H M2 Hc/\gQ z gO Y J M2 Hc (.new l) v:=by
  intro a xs l ev hm h0 hx rr;have m2:∀m∈a::M,m∈Mc:=λm hm'=>(eJ.mp hm').elim (λe=>e▸hm) (hM m)
  have aK:=st.trans (aq.less m2);refine#[a::M,core _ (λm hm'=>bP _ hm') m2 aK,aK,a,xs,ev,b0,λhA=>?_,s.bZ h0,hx,rr.stay (aq.less m2)]
  exact s.fresh h0 (s.sub a hA)
 cases r with
 |dat d=>cases hr;have aK:=st.trans (aq.less hM);exact#[M,core M (λm h=>h) hM aK,aK,Rep.stay (aq.less hM) q]
 |new l=>cases hr;obtain⟨a,xs,rfl,c1,c2,c3,c4,c5⟩:=q;exact new a xs l rfl c1 c3 c4 c5
 |var j=>
  obtain⟨l,q1,q2⟩:=q;have hr:(if j∈(vars 0 rs).map (·.1)then none else match gc[j]? with |!(.own l)=>!(R.new l) |_=>none)=!r':=hr
  split at hr
  . cases hr
  .
   rename_i hj;rw[q1]at hr;cases hr;obtain⟨a,xs,d1,d2,d3,d4⟩:=sc.sl.at q1;rw[q2]at d1;injection d1 with d1;injection d1 with d1;subst d1;refine new a xs l rfl (sc.sub a d2) ?_ d3 d4;rcases sc.own j a l q1 q2 with w |w
   . have w':=w.1;rw[sN]at w';exact absurd w' hj
   . exact w
end
theorem jL.length(q:jL z Y M H rs vs):vs.length=rs.length:=by
 induction q with
 |nil=>rfl
 |dat r q ih=>exact congrArg (· + 1) ih
 |var r q ih=>exact congrArg (· + 1) ih
def Wf(K:Frag)(N:List Str)(np:Nat)(run:List Nat->G->R->G->Prop):Sp:=λvs H Q _=>
 vs.length=np/\∃(z:Z) (g g':G) (J M:List Addr) (r:R),z.K=K/\S z g (start N vs) J M H/\run z.bor g r g'/\
  ∀v σ' aF M' H',S z g' σ' aF M' H'->aq M H M' H'->gQ z g' σ' aF M' H' r v->Q v H'
section
variable{run:List Nat->G->R->G->Prop}
theorem BV(F:rH X.prog X.w X.K X.mg X.base NB k f fd ps (Wf X.K N ps.length run))(hK:z.K=X.K)(hr:iK k X.A)(hg:Gl X x)(hm:X.mg x=!(.ref f))(hk:PySem.W.keepIn X.K (.ref f)=true)(hb:Binds X.K fd ps [])
  (ha:dB X z (e::es) g rs g1) (aJ:rs.length=ps.length) (hl:dF rs g1=!gs) (nd:((vars 0 rs).map (·.2)).Nodup) (hrun:run ((vars 0 rs).map (·.1)) (fB N.length gs) r gc) (hback:back (vars 0 rs) gc g1=!gO) (ho:jM ((vars 0 rs).map (·.1)) gc r=!r')
  (DQ:(x==(~~~3))=false) (he:starEach (e::es) X.env=(false,eval e X.env)::starEach es X.env) (jE:(backTo pos (starEach es X.env)).any (·.1)=false) :
  aB X z (.Call (.Name x p) (e::es) [] pos) g r' gO:=by
 obtain⟨t,q,kk⟩:=ha;refine#[_,Oh F hr hg hm hk hb .nil aah q DQ he jE,λY J M H Q s kq=>kk Y J M H _ s λvs H1 bx M1 s1 fP R1=>?_]
 have hv:=R1.length;have ee:=s1.enter (N:=N) R1 hl nd;refine#[by rw[n0,hv];exact aJ,wG z Y M1 H1 rs,fB N.length gs,gc,_,M1,r,hK,by rw[n0];exact ee,by rw[sN];exact hrun,λv σ' aF M' H' s' st' R'=>?_]
 obtain⟨M2,s2,aK,R2⟩:=s1.leave R1 hl nd s' st' R' hback ho;exact kq v H' bx M2 s2 (fP.trans aK) R2
theorem Tf{P:Program}{w:World}{K:Frag}{mg:Str->Option Value}{base:Heap}{qual:Str}{st:Stmt}(F:Fun K x qual st f fd)(Sc:fQ N ps (aR st))
  (h:∀(gj:Value) (A:Around) (outer:List Env) (s:Shared) (H:Hp) (E:XK),PySem.W.codeIn K gj qual=true->iK k (A.deeper (envOfC qual (aR st) s⁻¹ f gj))->
   ∀(z:Z) (g:G) (r:R) (g':G),z.K=K->run z.bor g r g'->∃fl,fz (vZ NB P w K mg base N qual (aR st) f gj A outer s H E).Zb z (bV st) g fl g'/\(fl=.rt r\/(fl=.nx/\r=.dat .non))) :
  rH P w K mg base NB (k+1) f fd ps (Wf K N ps.length run):=by
 obtain⟨oc,od,kV,doc,pm,an,gj,ct,osl,rfl,lk,ie⟩:=F.ex;refine aac lk ie Sc (λvs H Q E q=>q.1) ?_
 rintro A outer s H vs Q E hr ⟨_,z,g,g',J,M,r,hK,hs,hrun,hQ⟩;obtain⟨fl,⟨t,q,kk⟩,hfl⟩:=h gj A outer s H E ie hr z g r g' hK hrun;refine#[t,q.Zb,kk _ J M H _ hs ?_];rcases hfl with rfl |⟨rfl,rfl⟩
 . exact λv σ' aF M' H' s' st' R'=>hQ v σ' aF M' H' s' st' R'
 . exact λσ' aF M' H' s' st'=>hQ .non σ' aF M' H' s' st' .non
end
inductive Tg where
 |nm (i:Nat) |tp (is:List Nat)
noncomputable def lJ:List Nat->List D->G->G
 |i::is,d::ds,g=>lJ is ds (g.set i (.dat d))
 | [],_,g=>g
 |_::_,[],g=>g
noncomputable def Tg.ix:Tg->List Nat
 |.nm i=>[i]
 |.tp is=>is
def Tg.set:Tg->D->G->Option G
 |.nm i,d,g=>!(g.set i (.dat d))
 |.tp is,.tup ds,g=>if ds.length=is.length then some (lJ is ds g)else none
 |.tp is,.lst ds,g=>if ds.length=is.length then some (lJ is ds g)else none
 |.tp _,_,_=>none
def wH(is:List Nat)(Y σ':Sg):Prop:=σ'.length=Y.length/\∀j,j∉is->σ'[j]?=Y[j]?
theorem wH.refl(is:List Nat)(Y:Sg):wH is Y Y:=#[rfl,λ_ _=>rfl]
theorem wH.trans{is:List Nat}{Y σ1 σ2:Sg}(a:wH is Y σ1)(b:wH is σ1 σ2):wH is Y σ2:=#[b.1.trans a.1,λj h=>(b.2 j h).trans (a.2 j h)]
theorem wH.mono(h:∀i∈is,i∈js)(a:wH is Y σ'):wH js Y σ':=#[a.1,λj hj=>a.2 j λz=>hj (h j z)]
def gU(X:Cx)(z:Z)(tg:Expr)(T:Tg):Prop:=∃t,PG X tg t/\∀d g g',T.set d g=!g'->∀v Y J M H (Q:Sg->Hp->Prop),S z g Y J M H->Rep z.K M H d v->(∀σ' aF,S z g' σ' aF M H->wH T.ix Y σ'->Q σ' H)->t v Y H Q
structure uL(X:Cx)(x:Str)(i:Nat):Prop where
 nd:X.N.Nodup
 ix:X.N[i]?=!x
 lc:Loc X.env.scope x
 fn:X.fn x=true\/X.env.scope.names.lookup x=some .local
section
theorem tg_nm(h:uL X x i)(hb:i∉z.bor):gU X z (.Name x pos) (.nm i):=
 #[_,kh h.nd h.ix h.lc h.fn,λd g g' e v Y J M H Q s r k=>by
  cases e;obtain⟨aF,s'⟩:=s.jK hb r;exact k _ aF s' #[by rw[l8],λj hj=>by rw[fR (λe=>hj (by rw[<- e];exact fI.mpr rfl))]]]
inductive kG(X:Cx):List Expr->List Nat->Prop
 |nil:kG X [] []
 |cons {x:Str}{p:Pos}{i:Nat}{es:List Expr}{is:List Nat}:uL X x i->kG X es is->kG X (.Name x p::es) (i::is)
theorem kG.plain(h:kG X es is):(assignEach es X.env).length=is.length/\(assignEach es X.env).findIdx? (·.1)=none:=by
 induction h with
 |nil=>exact#[rfl,rfl]
 |cons _ _ ih=>
  refine#[?_,?_]
  . show (assignEach _ X.env).length+1=_;rw[ih.1];rfl
  . show List.findIdx? _ ((false,assign _ X.env)::assignEach _ X.env)=none;rw[List.findIdx?_cons,ih.2];rfl
theorem kG.pgs(h:kG X es is)(hb:∀i∈is,i∉z.bor):∃t,Zc X es t/\∀ds vs g Y J M H (Q:Sg->Hp->Prop),ds.length=is.length->S z g Y J M H->aH z.K M H ds vs->(∀σ' aF,S z (lJ is ds g) σ' aF M H->wH is Y σ'->Q σ' H)->t vs Y H Q:=by
 induction h with
 |nil=>
  refine#[_,Bq,λds vs g Y J M H Q hl s r k=>?_]
  cases r with
  |nil=>exact#[rfl,k Y J s (wH.refl _ _)]
  |cons _ _=>simp at hl
 |@cons x p i es is hn hs ih=>
  obtain⟨t,q,kk⟩:=ih λj hj=>hb j (bP _ hj)
  refine#[_,oJ (kh hn.nd hn.ix hn.lc hn.fn) q rfl,λds vs g Y J M H Q hl s r k=>?_]
  cases r with
  |nil=>simp at hl
  |@cons d ds v vs r rs=>
   obtain⟨bx,s1⟩:=s.jK (hb i b0) r;refine#[v,vs,rfl,kk ds vs _ _ bx M H Q (by simpa using hl) s1 rs λσ' aF s' a=>k σ' aF s' ?_]
   refine wH.trans #[by rw[l8],λj hj=>?_] (a.mono λj hj=>bP _ hj)
   rw[fR (λe=>hj (by rw[<- e];exact b0))]
theorem zm(ne:l≠it)(n:Nat):∀(i:Nat) (s:Shared) (Q:List Value->Shared->Prop),s.heap.IsListIter it l i->s.heap.IsList l xs->i+n=xs.size->
  (∀h',h'.IsListIter it l xs.size->Heap.SameBut it s.heap h'->Q (xs.toList.drop i) { s with heap:=h'})->wpAny (model prog w) A (draw (.ref it) n) Q E s:=by
 induction n with
 |zero=>
  intro i s Q hit _ hi k;have e:xs.toList.drop i=[]:=List.drop_eq_nil_of_le (by rw[i9];lia)
  have q:=k s.heap (by rw[<- hi];exact hit) (Heap.SameBut.refl ..)
  rw[e]at q;exact dA q
 |succ n ih=>
  intro i s Q hit hl hi k;have hlt:i<xs.size:=by lia
  refine aS (wpAny_pyNext_list_item hit hl (x:=xs[i]) (by simp[hlt]) λh1 b1 c1=>?_)
  refine aS (l7 (ih (i+1) _ _ b1 (hl.extBut c1.extBut ne) ⋯ λh2 b2 c2=>dA ?_))
  have q:=k h2 b2 (c1.trans c2);rw[List.drop_eq_getElem_cons (by rw[i9];exact hlt)]at q
  exact q
theorem wI(hh:A.handled=none)(hl:s.heap.IsList l xs)
  (k:∀h',Heap.ExtBut s⁻¹ s.heap h'->Q xs.toList { s with heap:=h'}):wpAny (model prog w) A (unpackItems (.ref l) xs.size none) Q E s:=by
 have ne:l≠s⁻¹:=by obtain⟨o,ho,_⟩:=hl;exact kA (fN ho)
 refine aS ?_;refine aS (AW hl.typeIs slot_list_iter.lookup ?_);refine dA ?_;refine aS (l7 (AI hl ?_));refine aS (l7 (zm ne xs.size 0 _ _ #[_,eQ _ rfl,rfl,rfl] (hl.push _) (AB _) λh1 b1 c1=>?_))
 rw[eP ⋯];refine aS (l7 (wpAny_pyNext_list_end hh b1 ((hl.push _).extBut c1.extBut ne) ⋯ λh2 e2=>?_))
 exact dA (k h2 λb o nb e=>e2 b o nb (c1.extBut b o nb (dC _ e)))
def gSeq(K:Frag)(n:Nat)(t:Ux):TG:=λv Y H Q=>∃a xs,v=.ref a/\(iO K H a xs\/cZ K H a xs)/\xs.length=n/\t xs Y H Q
theorem Wg(hc:X.calm=true)(h:Zc X es t)(hn:(assignEach es X.env).length=n)(eZ:(assignEach es X.env).findIdx? (·.1)=none):PG X (.Tuple es k pos) (gSeq X.K n t):=by
 intro ah s Y H v u Q I r hw;obtain⟨a,xs,e1,hq,hl,hw⟩:=hw;rcases hq with hq |hq
 . exact HR hc h hn eZ ah s Y H v u Q I r #[a,xs,e1,hq,hl,hw]
 .
  subst e1;cases r;obtain⟨its,rv,pl,hz⟩:=I.list hq;refine aS (t5 ?_);unfold unpack;rw[eZ,show (assignEach es X.env).length=its.toArray.size by rw[hn,<- hl,rv.length,d5]]
  refine aS (l7 (wI (I.ok.hd hc) pl.isList λh' hx=>?_))
  have I1:=I.kept (t':=s.toks) λb o e=>hx b o (kA (fN e)) e
  exact h ah _ Y H xs _ Q I1 (by simpa using rv) hw
theorem tg_tp(hc:X.calm=true)(hK:z.K=X.K)(h:kG X es is)(hb:∀i∈is,i∉z.bor):gU X z (.Tuple es k pos) (.tp is):=by
 obtain⟨t,q,kk⟩:=h.pgs hb;refine#[_,Wg hc q h.plain.1 h.plain.2,λd g g' e v Y J M H Q s r k=>?_]
 cases d with
 |tup ds=>
  have e:(if ds.length=is.length then some (lJ is ds g)else none)=!g':=e
  by_cases hl:ds.length=is.length
  .
   rw[eR hl]at e;cases e;cases r with
   |@tup _ a xs ha rr=>exact#[a,xs,rfl,.inl (hK▸ha.sq),by rw[<- rr.length];exact hl,kk ds xs g Y J M H Q hl s rr k]
  . rw[eP hl]at e;cases e
 |lst ds=>
  have e:(if ds.length=is.length then some (lJ is ds g)else none)=!g':=e
  by_cases hl:ds.length=is.length
  .
   rw[eR hl]at e;cases e;cases r with
   |@lst _ a xs ha rr=>exact#[a,xs,rfl,.inr (cZ.of ha.2),by rw[<- rr.length];exact hl,kk ds xs g Y J M H Q hl s rr k]
  . rw[eP hl]at e;cases e
 |_=>cases e
def Jt(qqz:It)(items:List D)(K:Frag)(M1:List Addr)(H1:Hp):Prop:=
 ∀M2 H2,aq M1 H1 M2 H2->(∀n d,items[n]?=!d->qqz.go n H2/\∀x H',qqz.Zd n H2 x H'->∀(z:Z) g Y J,z.K=K->S z g Y J M2 H2->S z g Y J M2 H'/\aq M2 H2 M2 H'/\Rep K M2 H' d x)/\qqz.stop items.length H2
def eL(X:Cx)(z:Z)(tg iter:Expr)(g:G)(items:List D)(g1:G):Prop:=
 ∃wi,PI X tg iter wi/\∀Y J M H (R:It->Hp->Prop),S z g Y J M H->(∀qqz H' aF M',S z g1 Y aF M' H'->aq M H M' H'->Jt qqz items z.K M' H'->R qqz H')->wi Y H R
theorem Wh(hK:z.K=X.K)(h:aB X z iter g (.dat (.tup l)) g1):eL X z tg iter g l g1:=by
 obtain⟨t,q,k⟩:=h;refine#[_,Ia q,λY J M H R s kk=>k Y J M H _ s λv H1 bx M1 s1 fP r=>?_]
 have r':=r;cases r' with
 |@tup _ a xs ha rr=>
  refine#[a,rfl,#[xs,hK▸ha.sq],kk _ H1 bx M1 s1 fP λM2 H2 aK=>?_]
  have ha2:TupAt z.K M2 H2 a xs:=by
   rcases ha with ⟨na,hr⟩ |hk
   . exact .inl (aK.rd na hr)
   . exact .inr hk
  have Pw:=rr.stay aK;refine#[λn d hd=>?_,xs,hK▸ha2.sq,by rw[rr.length];exact eD _]
  obtain⟨x,e1,e2⟩:=Pw.get hd;refine#[#[xs,x,hK▸ha2.sq,e1],λy H' hy z' g' σ' aF _ s'=>?_]
  obtain⟨rfl,hy⟩:=hy;have:=hy xs (hK▸ha2.sq);rw[e1]at this;cases this;exact#[s',aq.refl _ _,e2]
theorem Wi(h:aB X z iter g (.dat (.lst l)) g1):eL X z tg iter g l g1:=by
 obtain⟨t,q,k⟩:=h;refine#[_,Br q,λY J M H R s kk=>k Y J M H _ s λv H1 bx M1 s1 fP r=>?_]
 have r':=r;cases r' with
 |@lst _ a xs ha rr=>
  refine#[a,rfl,#[xs,cZ.of ha.2],kk _ H1 bx M1 s1 fP λM2 H2 aK=>?_]
  have ha2:=(aK _ _ ha.2 ha.1).1;have Pw:=rr.stay aK;refine#[λn d hd=>?_,xs,cZ.of ha2,by rw[rr.length];exact eD _]
  obtain⟨x,e1,e2⟩:=Pw.get hd;refine#[#[xs,x,cZ.of ha2,e1],λy H' hy z' g' σ' aF _ s'=>?_]
  obtain⟨rfl,hy⟩:=hy;have:=hy xs (cZ.of ha2);rw[e1]at this;cases this;exact#[s',aq.refl _ _,e2]
theorem Wj(hK:z.K=X.K)(h:aB X z iter g (.dat (.fix l)) g1):eL X z tg iter g l g1:=by
 obtain⟨t,q,k⟩:=h;refine#[_,Br q,λY J M H R s kk=>k Y J M H _ s λv H1 bx M1 s1 fP r=>?_]
 have r':=r;cases r' with
 |@fix _ a xs ha rr=>
  refine#[a,rfl,#[xs,hK▸ha.sq],kk _ H1 bx M1 s1 fP λM2 H2 aK=>?_]
  have ha2:sH z.K M2 H2 a xs:=by
   rcases ha with ⟨na,o,hr⟩ |hk
   . exact .inl #[(aK _ _ hr na).2,o,(aK _ _ hr na).1]
   . exact .inr hk
  have Pw:=rr.stay aK;refine#[λn d hd=>?_,xs,hK▸ha2.sq,by rw[rr.length];exact eD _]
  obtain⟨x,e1,e2⟩:=Pw.get hd;refine#[#[xs,x,hK▸ha2.sq,e1],λy H' hy z' g' σ' aF _ s'=>?_]
  obtain⟨rfl,hy⟩:=hy;have:=hy xs (hK▸ha2.sq);rw[e1]at this;cases this;exact#[s',aq.refl _ _,e2]
theorem Jw{lo:Int}{n:Nat}{K:Frag}{M:List Addr}{H:Hp}:Jt (UJ lo n) (bQ lo n) K M H:=λM2 H2 _=>by
 refine#[λk d hd=>?_,?_]
 .
  have hk:k<n:=by have:=(dS.mp hd).1;rw[wF]at this;exact this
  rw[Ju hk]at hd;cases hd;refine#[hk,λx H' hx z' g' σ' aF _ s'=>?_]
  obtain⟨rfl,rfl⟩:=hx;exact#[s',aq.refl _ _,.int _]
 . show n<=(bQ lo n).length;rw[wF];exact eD _
theorem Px(h:dB X z [a] g [‹j›] g1)(hg:Gl X "range")(hm:X.mg "range"=none)(hs:starEach [a] X.env=[(false,eval a X.env)])(h1 : -(2 ^ 62)<=j)(h2:j<2 ^ 62) :
  eL X z tg (.Call (.Name "range" p) [a] [] rp) g (bQ 0 j.toNat) g1:=by
 obtain⟨wi,q,k⟩:=Eu h hg hm hs h1 h2;exact#[wi,q,λY J M H R s kk=>k Y J M H _ s λH' aF M' s' st=>kk _ H' aF M' s' st Jw]
theorem Py(h:dB X z [a,b] g [‹c›,‹j›] g1)(hg:Gl X "range")(hm:X.mg "range"=none)(hs:starEach [a,b] X.env=[(false,eval a X.env),(false,eval b X.env)])(hs2:starEach [b] X.env=[(false,eval b X.env)])
  (h1 : -(2 ^ 62)<=c/\c<2 ^ 62/\-(2 ^ 62)<=j/\j<2 ^ 62):eL X z tg (.Call (.Name "range" p) [a,b] [] rp) g (bQ c (j - c).toNat) g1:=by
 obtain⟨wi,q,k⟩:=Ew h hg hm hs hs2 h1;exact#[wi,q,λY J M H R s kk=>k Y J M H _ s λH' aF M' s' st=>kk _ H' aF M' s' st Jw]
inductive gn(X:Cx)(z:Z)(body:List Stmt)(T:Tg):List D->G->Fl->G->Prop
 |nil {g:G}:gn X z body T [] g .nx g
 |next {d:D}{l:List D}{g g0 g1 g2:G}{f:Fl}:T.set d g=!g0->fz X z body g0 .nx g1->gn X z body T l g1 f g2->gn X z body T (d::l) g f g2
 |cont {d:D}{l:List D}{g g0 g1 g2:G}{f:Fl}:T.set d g=!g0->fz X z body g0 .ct g1->gn X z body T l g1 f g2->gn X z body T (d::l) g f g2
 |brk {d:D}{l:List D}{g g0 g1:G}:T.set d g=!g0->fz X z body g0 .bk g1->gn X z body T (d::l) g .nx g1
 |ret {d:D}{l:List D}{g g0 g1:G}{r:R}:T.set d g=!g0->fz X z body g0 (.rt r) g1->gn X z body T (d::l) g (.rt r) g1
theorem ar1{i m n:Nat}(h:i+m=n)(hi:i<n):m - 1<m/\i+1+(m - 1)=n:=by lia
theorem kH{qqz:It}{items:List D}{K:Frag}{M1:List Addr}{H1 H0:Hp}{σ0:Sg}{Qn:Sg->Hp->Prop}{Body:V->Sg->Hp->(Sg->Hp->Prop)->Prop}(hJ:Jt qqz items K M1 H1)(P:List D->Sg->Hp->Prop)(h0:P items σ0 H0)
  (st:∀l σ' H',P l σ' H'->∃M2,aq M1 H1 M2 H') (fin:∀σ' H',P [] σ' H'->Qn σ' H')
  (turn:∀d l σ' H',P (d::l) σ' H'->∀x H2,(∀M2,aq M1 H1 M2 H'->∀(z:Z) g Y J,z.K=K->S z g Y J M2 H'->S z g Y J M2 H2/\aq M2 H' M2 H2/\Rep K M2 H2 d x)->Body x σ' H2 (P l)) :
  ∃W:Nat->Nat->Sg->Hp->Prop,(∃m,W 0 m σ0 H0)/\∀i m σ' H',W i m σ' H'->
   (qqz.stop i H'/\Qn σ' H')\/(qqz.go i H'/\∃Nn:Sg->Hp->Prop,(∀Em En,Nn Em En->∃m',m'<m/\W (i+1) m' Em En)/\∀x H2,qqz.Zd i H' x H2->Body x σ' H2 Nn):=by
 refine#[λi m σ' H'=>i+m=items.length/\P (items.drop i) σ' H',#[items.length,AB _,h0],?_]
 rintro i m σ' H' ⟨him,p⟩;obtain⟨M2,aK⟩:=st _ _ _ p;obtain⟨hgo,hstop⟩:=hJ M2 H' aK;cases e:items[i]? with
 |none=>
  have hi:i=items.length:=by have:=A8.mp e;lia
  subst hi;rw[List.drop_length]at p;exact .inl #[hstop,fin _ _ p]
 |some d=>rw[drop_cons e]at p;have hi:=(dS.mp e).1;have hm:=ar1 him hi;exact .inr #[(hgo i d e).1,P (items.drop (i+1)),λEm En hN=>#[m - 1,hm.1,hm.2,hN],λx H2 hx=>turn d _ σ' H' p x H2 λM3 dZ=>((hJ M3 H' dZ).1 i d e).2 x H2 hx]
theorem Wk(hp:PassesOwn (~~~2) X.A X.env X.xe)(hc:X.calm=true)(hw:eL X z tg iter g items g1)(ht:gU X z tg T)(hb:gn X z body T items g1 f g')(hs:∀y,foldedSetIterable iter X.env y=pure y) :
  jy X z (.For tg iter body [] pos) g f g':=by
 obtain⟨wi,q,k⟩:=hw;obtain⟨t,qt,kt⟩:=ht;refine#[_,Ib hp hc q qt BL hs,λY J M H E s kk=>k Y J M H _ s λqqz H1 bx M1 s1 fP hJ=>?_]
 refine kH hJ (λl σ2 H2=>∃g2 bI M2,S z g2 σ2 bI M2 H2/\aq M1 H1 M2 H2/\gn X z body T l g2 f g') #[g1,bx,M1,s1,aq.refl _ _,hb] (by rintro _ _ _ ⟨_,_,M2,_,aK,_⟩;exact#[M2,aK]) ?_ ?_
 . rintro σ2 H2 ⟨g2,bI,M2,s2,aK,lo⟩;cases lo;exact kk σ2 bI M2 H2 s2 (fP.trans aK)
 .
  rintro d l σ2 H2 ⟨g2,bI,M2,s2,aK,lo⟩ x H' yl;obtain⟨s3,dZ,rx⟩:=yl M2 aK z g2 σ2 bI rfl s2;have kk':=(kk.trans fP).trans (aK.trans dZ);have st23:=aK.trans dZ;cases lo with
  |next e0 b h=>
   refine kt d g2 _ e0 x σ2 bI M2 H' _ s3 rx λσ' aF s' _=>?_
   obtain⟨t,q,kb⟩:=b;exact#[t,q,kb _ aF M2 H' _ s' λσ4 jO M4 H4 s4 vO=>#[_,jO,M4,s4,st23.trans vO,h]]
  |cont e0 b h=>
   refine kt d g2 _ e0 x σ2 bI M2 H' _ s3 rx λσ' aF s' _=>?_
   obtain⟨t,q,kb⟩:=b;exact#[t,q,kb _ aF M2 H' _ s' λσ4 jO M4 H4 s4 vO=>#[_,jO,M4,s4,st23.trans vO,h]]
  |brk e0 b=>
   refine kt d g2 _ e0 x σ2 bI M2 H' _ s3 rx λσ' aF s' _=>?_
   obtain⟨t,q,kb⟩:=b;exact#[t,q,kb _ aF M2 H' _ s' λσ4 jO M4 H4 s4 vO=>kk' σ4 jO M4 H4 s4 vO]
  |ret e0 b=>
   refine kt d g2 _ e0 x σ2 bI M2 H' _ s3 rx λσ' aF s' _=>?_
   obtain⟨t,q,kb⟩:=b;exact#[t,q,kb _ aF M2 H' _ s' λv σ4 jO M4 H4 s4 vO R=>kk' v σ4 jO M4 H4 s4 vO R]
end
noncomputable def gC(k:Nat)(g:G):G:=g++(List.replicate k .no++[.own []])
def cG(X:Cx)(z:Z)(ifs:List Expr)(g:G)(b:Bool)(g':G):Prop:=
 ∃t,ku X ifs t/\∀Y J M H (Q:Bool->Hp->Prop),S z g Y J M H->(∀H' aF M',S z g' Y aF M' H'->aq M H M' H'->Q b H')->t Y H Q
theorem Pz:cG X z [] g true g:=#[_,wc,λY J M H Q s k=>k H J M s (aq.refl _ _)]
theorem PB(h:dz X z c g b g'):cG X z [c] g b g':=let #[t,q,k]:=h;#[t,Io q,k]
inductive kJ(T:Tg)(last:Nat)(mS:G->Bool->G->Prop)(yT:G->D->G->Prop):List D->G->G->Prop
 |nil {g:G}:kJ T last mS yT [] g g
 |skip:T.set d g=!g1->mS g1 false g2->kJ T last mS yT l g2 g'->kJ T last mS yT (d::l) g g'
 |take:T.set d g=!g1->mS g1 true g2->yT g2 e g3->g3[last]?=!(.own acc)->acc.length<16777216->kJ T last mS yT l (g3.set last (.own (acc++[e]))) g'->kJ T last mS yT (d::l) g g'
section
theorem S.extend(s:S z g Y J M H)(hm:a∈M)(hA:a∉J)(h0:z.H0 a=none)(h:H a=!(.lst xs))(r:aH z.K M H l xs) :
  S z (g++(List.replicate k .no++[.own l])) (Y++(List.replicate k none++[!(.ref a)])) (J++([]++[a])) M H:=by
 have hl:=s.sl.length;refine#[s.sl.append ((Slots.nos k).append (.own h r .nil)),?_,λb hb=>?_,λi b l' e1 e2=>?_,s.live,s.keep,s.j8,s.m0,s.bm,λp hp=>?_,s.tab,s.tm,s.tt]
 .
  rw[AX];refine oT.mpr #[s.nd,gN.mpr #[by simp,qS],λx hx y hy e=>?_]
  rw[fI.mp hy]at e;exact hA (e▸hx)
 .
  rcases o5.mp hb with q |q
  . exact s.sub b q
  . rw[AX]at q;rw[fI.mp q];exact hm
 .
  rcases u4 i g.length with hi |hi
  . rw[dL hi]at e1;rw[dL ⋯]at e2;exact s.own i b l' e1 e2
  .
   rw[eI hi]at e1;rw[eI ⋯]at e2;rcases u4 (i - g.length) k with hk |hk
   .
    rw[dL (by rw[kS];exact hk)]at e1
    have:=i8 e1;rw[w9]at this;exact absurd this.2 ⋯
   .
    rw[eI (by rw[kS];lia),kS]at e2
    have e3:i - Y.length - k=0:=by
     rcases Nat.eq_zero_or_pos (i - Y.length - k)with q |q
     . exact q
     . rw[tP (Nat.succ_le_of_lt q)]at e2;cases e2
    rw[e3]at e2;have e4:=e2;injection e4 with e4;injection e4 with e4;injection e4 with e4;exact .inr (e4▸h0)
 . obtain⟨q1,l',q2⟩:=s.jw p hp;exact#[by rw[dL (dS.mp q1).1];exact q1,l',by rw[dL (dS.mp q2).1];exact q2]
theorem Slots.split{K:Frag}{g1 g2:G}{Y:Sg}{J:List Addr}(q:Slots K M H (g1++g2) Y J):∃σ1 σ2 A1 A2,Y=σ1++σ2/\J=A1++A2/\Slots K M H g1 σ1 A1/\Slots K M H g2 σ2 A2:=by
 induction g1 generalizing Y J with
 |nil=>exact#[[],_,[],_,rfl,rfl,.nil,q]
 |cons o g1 ih=>cases q with
  |no q=>obtain⟨s1,s2,a1,a2,rfl,rfl,h1,h2⟩:=ih q;exact#[_::s1,s2,a1,a2,rfl,rfl,.no h1,h2]
  |dat r q=>obtain⟨s1,s2,a1,a2,rfl,rfl,h1,h2⟩:=ih q;exact#[_::s1,s2,a1,a2,rfl,rfl,.dat r h1,h2]
  |own e r q=>obtain⟨s1,s2,a1,a2,rfl,rfl,h1,h2⟩:=ih q;exact#[_::s1,s2,_::a1,a2,rfl,rfl,.own e r h1,h2]
theorem S.shrink{gb:G}{τ:Sg}{l:List D}{i:Nat}{a:Addr}(s:S z gb (Y++τ) J M H)(hz:∀p∈z.lent,p.1<Y.length)(hi:Y.length<=i)(e1:gb[i]?=!(.own l))(e2:(Y++τ)[i]?=!(!(.ref a))) :
  ∃A1,S z (gb.take Y.length) Y A1 M H/\a∈M/\a∉A1:=by
 have hl:=s.sl.length;rw[fA]at hl;have q:=s.sl;rw[<- AY Y.length gb]at q;obtain⟨σ1,σ2,A1,A2,h1,h2,h3,h4⟩:=q.split;have l1:=h3.length;rw[t9,CD ⋯]at l1;obtain⟨rfl,rfl⟩:=List.append_inj h1 l1;subst h2;have hA2:a∈A2:=by
  obtain⟨b,xs,f1,f2,_⟩:=h4.at (by rw[List.getElem?_drop,Nat.add_sub_cancel' hi];exact e1)
  rw[eI hi]at e2;rw[e2]at f1;injection f1 with f1;injection f1 with f1;injection f1 with f1;exact f1▸f2
 have tk:∀(j:Nat) (o:Slot),(gb.take Y.length)[j]?=!o->gb[j]?=!o/\j<Y.length:=λj o e=>by
  have hj:=(dS.mp e).1;rw[t9]at hj;have hj':=hU hj (Nat.min_le_left _ _);rw[tI hj']at e;exact#[e,hj']
 refine#[A1,#[h3,(oT.mp s.nd).1,λb hb=>s.sub b (oD _ hb),λj b l' c1 c2=>?_,s.live,s.keep,s.j8,s.m0,s.bm,λp hp=>?_,s.tab,s.tm,s.tt],s.sub a (i6 _ hA2),λhA=>(oT.mp s.nd).2.2 a hA a hA2 rfl]
 . obtain⟨c3,c4⟩:=tk j _ c1;exact s.own j b l' c3 (by rw[dL c4];exact c2)
 . obtain⟨c1,l',c2⟩:=s.jw p hp;have pL:=hz p hp;rw[dL pL]at c1;exact#[c1,l',by rw[tI pL];exact c2]
theorem cV(h:wH is (Y++τ) σ')(hi:∀i∈is,Y.length<=i):∃τ',σ'=Y++τ':=by
 refine#[σ'.drop Y.length,?_];have e:σ'.take Y.length=Y:=by
  apply List.ext_getElem?;intro j;rcases u4 j Y.length with hj |hj
  . rw[tI hj,h.2 j (λz=>Nat.not_lt.mpr (hi j z) hj),dL hj]
  . rw[tP (by rw[t9];exact l4 (Nat.min_le_left _ _) hj),tP hj]
 have:=(AY Y.length σ').symm;rw[e]at this;exact this
end
section
def Ez(X:Cx)(tg:Expr):TG:=λv Y H Q=>∃t,PG X tg t/\t v Y H Q
theorem jP:PG X tg (Ez X tg):=λah s Y H v u Q I r h=>let #[t,q,k]:=h;q ah s Y H v u Q I r k
def EY(X:Cx)(ifs:List Expr):TT:=λY H Q=>∃t,ku X ifs t/\t Y H Q
theorem jQ:ku X ifs (EY X ifs):=λah s Y H Q I h=>let #[t,q,k]:=h;q ah s Y H Q I k
def Jx(X:Cx)(e:Expr):TE:=λY H Q=>∃t,PE X e t/\t Y H Q
theorem pM:PE X e (Jx X e):=λah s Y H Q I h=>let #[t,q,k]:=h;q ah s Y H Q I k
theorem pN(hw:eL X z tg iter g items g1)(ht:∀b:Bk,gU (X.blk N' scope b) z tg T)(hT:∀i∈T.ix,g1.length<=i/\i<g1.length+k)
  (hcp:kJ T (g1.length+k) (λg b g'=>∀bk:Bk,cG (X.blk N' scope bk) z ifs g b g') (λg d g'=>∀bk:Bk,aB (X.blk N' scope bk) z bG g (.dat d) g') items (gC k g1) gE) (hacc:gE[g1.length+k]?=!(.own acc)) :
  ∃wi,PI X tg iter wi/\∀Y J M H Q,S z g Y J M H->Kn z (gE.take g1.length) Y M H (.new acc) Q->sG X k wi (λb=>Ez (X.blk N' scope b) tg) (λb=>EY (X.blk N' scope b) ifs) (λD b=>wg D (Jx (X.blk N' scope b) bG)) Y H Q:=by
 obtain⟨wi,q,kw⟩:=hw;refine#[wi,q,λY J M H Q s kq=>kw Y J M H _ s λqqz H1 bx M1 s1 fP hJ D hD=>?_]
 have hl:=s1.sl.length;have hz:∀p∈z.lent,p.1<Y.length:=λp hp=>(dS.mp (s1.jw p hp).1).1
 have Wm:∀i∈T.ix,Y.length<=i:=λi hi=>by rw[<- hl];exact (hT i hi).1
 have bW:g1.length+k∉T.ix:=λh=>nS _ (hT _ h).2
 have s1':=s1.aP (xs:=[]) hD;have h0:=s1.bZ hD;have nA:D∉bx:=λh=>s1.fresh hD (s1.sub D h)
 have sb:=s1'.extend (k:=k) b0 nA h0 aE .nil;have Jy:(Y++(List.replicate k none++[!(V.ref D)]))[g1.length+k]?=!(!(V.ref D)):=by
  rw[hl,eI (B9 _ _),sB,eI (by rw[kS];exact eD _),kS,B6]
  rfl
 refine kH hJ (λl σ' H'=>∃gb Ab Mb τ,S z gb σ' Ab Mb H'/\aq M1 H1 Mb H'/\σ'=Y++τ/\σ'[g1.length+k]?=!(!(.ref D))/\kJ T (g1.length+k) (λg b g'=>∀bk:Bk,cG (X.blk N' scope bk) z ifs g b g') (λg d g'=>∀bk:Bk,aB (X.blk N' scope bk) z bG g (.dat d) g') l gb gE)
  #[_,_,_,_,sb,aq.aP hD,rfl,Jy,hcp] (by rintro _ _ _ ⟨_,_,M2,_,_,aK,_⟩;exact#[M2,aK]) ?_ ?_
 . rintro σ' H' ⟨gb,Ab,Mb,τ,s2,aK,rfl,yU,cp⟩;cases cp;obtain⟨a,xs,f1,f2,f3,f4⟩:=s2.sl.at hacc;rw[yU]at f1;injection f1 with f1;injection f1 with f1;injection f1 with f1;subst f1;obtain⟨A1,s3,m3,n3⟩:=s2.shrink hz ⋯ hacc yU;rw[<- hl]at s3;exact kq _ H' A1 Mb s3 (fP.trans aK) #[D,xs,rfl,m3,n3,h0,f3,f4]
 .
  rintro d l σ' H' ⟨gb,Ab,Mb,τ,s2,aK,rfl,yU,cp⟩ x H2 yl bk _;obtain⟨s3,dZ,rx⟩:=yl Mb aK z gb (Y++τ) Ab rfl s2;obtain⟨t,qt,kt⟩:=ht bk;cases cp with
  |skip e0 hc aD=>
   refine#[t,qt,kt d gb _ e0 x _ Ab Mb H2 _ s3 rx λσ4 jO s4 ag=>?_]
   obtain⟨τ',rfl⟩:=cV ag Wm;obtain⟨t2,q2,k2⟩:=hc bk;refine#[t2,q2,k2 _ jO Mb H2 _ s4 λH5 BW M5 s5 ki=>?_]
   refine oY #[_,BW,M5,τ',s5,(aK.trans dZ).trans ki,rfl,?_,aD];rw[ag.2 _ bW];exact yU
  |take e0 hc he ha hz' aD=>
   refine#[t,qt,kt d gb _ e0 x _ Ab Mb H2 _ s3 rx λσ4 jO s4 ag=>?_]
   obtain⟨τ',rfl⟩:=cV ag Wm;obtain⟨t2,q2,k2⟩:=hc bk;obtain⟨t3,q3,k3⟩:=he bk;have PJ:(Y++τ')[g1.length+k]?=!(!(V.ref D)):=by rw[ag.2 _ bW];exact yU
   refine#[t2,q2,k2 _ jO Mb H2 _ s4 λH5 BW M5 s5 ki=>kr #[t3,q3,k3 _ BW M5 H5 _ s5 λv H6 Wn M6 s6 Ti R6=>?_]]
   obtain⟨a,xs,f1,f2,f3,f4⟩:=s6.sl.at ha;rw[PJ]at f1;injection f1 with f1;injection f1 with f1;injection f1 with f1;subst f1;obtain⟨s7,st7⟩:=s6.write ha PJ (f4.append (.cons R6 .nil));refine#[xs,f3,by rw[<- f4.length];exact hz',_,Wn,M6,τ',s7,(((aK.trans dZ).trans ki).trans Ti).trans st7,rfl,PJ,aD]
theorem PK(B:bJ X.env.scope scope)(hc:X.calm=true)(hN:Names X.N N' scope k)(hw:eL X z tg iter g items g1)(ht:∀b:Bk,gU (X.blk N' scope b) z tg T)(hT:∀i∈T.ix,g1.length<=i/\i<g1.length+k)
  (hcp:kJ T (g1.length+k) (λg b g'=>∀bk:Bk,cG (X.blk N' scope bk) z ifs g b g') (λg d g'=>∀bk:Bk,aB (X.blk N' scope bk) z bG g (.dat d) g') items (gC k g1) gE) (hacc:gE[g1.length+k]?=!(.own acc))
  (hs:∀x,foldedSetIterable iter X.env x=pure x):aB X z (.ListComp bG [#[tg,iter,ifs,0]] scope pos) g (.new acc) (gE.take g1.length):=by
 obtain⟨wi,q,kk⟩:=pN hw ht hT hcp hacc;exact#[_,Ow B hc hN q (λb=>#[jP,jQ,pM]) hs,kk]
theorem PL(B:bJ X.env.scope scope)(hc:X.calm=true)(hN:Names X.N N' scope k)(hw:eL X z tg iter g items g1)(ht:∀b:Bk,gU (X.blk N' scope b) z tg T)(hT:∀i∈T.ix,g1.length<=i/\i<g1.length+k)
  (hcp:kJ T (g1.length+k) (λg b g'=>∀bk:Bk,cG (X.blk N' scope bk) z ifs g b g') (λg d g'=>∀bk:Bk,aB (X.blk N' scope bk) z bG g (.dat d) g') items (gC k g1) gE) (hacc:gE[g1.length+k]?=!(.own acc))
  (Iq:X.N.Nodup) (hy:X.N[i]?=!y) (hl:X.env.scope.names.lookup y=some .local) (hb:i∉z.bor) (hi:i<(gE.take g1.length).length)
  (hsw:swapsWith (.ListComp bG [#[tg,iter,ifs,0]] scope pos) (!(.Name y py)) gG.line X.env=pure true)
  (hs:∀x,foldedSetIterable iter X.env x=pure x):jy X z (.Assign [.Name y py] (.ListComp bG [#[tg,iter,ifs,0]] scope pos) gG) g .nx ((gE.take g1.length).set i (.own acc)):=by
 obtain⟨wi,q,kk⟩:=pN hw ht hT hcp hacc;refine#[_,By B hc hN q (λb=>#[jP,jQ,pM]) Iq hy hl hsw hs,λY J M H E s kE=>kk Y J M H _ s λv H' aF M' s' st R=>?_]
 obtain⟨a,xs,rfl,hm,hA,h0,ha,rr⟩:=R;obtain⟨bI,s2⟩:=s'.o7 hb hi hm hA h0 ha rr;exact kE _ bI M' H' s2 st
end
section
theorem aB.run(he:aB X z e g r g1)(I:L2.Inv X ah Y H s)(st:S z g Y J M H)
  (k:∀v u s1 H1 bx M1,L2.Inv X ah Y H1 s1->RelV v u->S z g1 Y bx M1 H1->aq M H M1 H1->gQ z g1 Y bx M1 H1 r v->Post u s1):wpAny (~~~2) X.A (eval e X.env) Post X.xe s:=by
 obtain⟨t,q,kt⟩:=he;exact cF (q ah s Y H (λv H1=>∃bx M1,S z g1 Y bx M1 H1/\aq M H M1 H1/\gQ z g1 Y bx M1 H1 r v) I (kt Y J M H _ st λv H1 bx M1 s1 fP R=>#[bx,M1,s1,fP,R])) (by rintro u s1 ⟨v,H1,I1,r1,bx,M1,q1,q2,q3⟩;exact k v u s1 H1 bx M1 I1 r1 q1 q2 q3)
theorem lH.run(ho:lH X z f d1 d2 r)(I:L2.Inv X ah Y H s)(st:S z g Y J M H)(p1:Pk z.K M H d1 v1)(p2:Pk z.K M H d2 v2)(r1:RelV v1 u1)(r2:RelV v2 u2)
  (k:∀v u s1 H1 bx M1,L2.Inv X ah Y H1 s1->RelV v u->S z g Y bx M1 H1->aq M H M1 H1->gQ z g Y bx M1 H1 r v->Post u s1):wpAny (~~~2) X.A (f u1 u2) Post X.xe s:=by
 obtain⟨rr,o,ko⟩:=ho;exact cF (o ah s Y H v1 v2 u1 u2 (λv H1=>∃bx M1,S z g Y bx M1 H1/\aq M H M1 H1/\gQ z g Y bx M1 H1 r v) I r1 r2 (ko g Y J M H v1 v2 _ st p1 p2 λv H1 bx M1 s1 fP R=>#[bx,M1,s1,fP,R])) (by rintro u s1 ⟨v,H1,I1,r1,bx,M1,q1,q2,q3⟩;exact k v u s1 H1 bx M1 I1 r1 q1 q2 q3)
theorem aB.of (h:∀(ah: ~~~1) (s:Shared) (Y:Sg) (J M:List Addr) (H:Hp) (Post:Value->Shared->Prop),L2.Inv X ah Y H s->S z g Y J M H->
  (∀v u s1 H1 bx M1,L2.Inv X ah Y H1 s1->RelV v u->S z g1 Y bx M1 H1->aq M H M1 H1->gQ z g1 Y bx M1 H1 r v->Post u s1)->wpAny (~~~2) X.A (eval e X.env) Post X.xe s):aB X z e g r g1:=
 #[λY H Q=>∃J M,S z g Y J M H/\Kn z g1 Y M H r Q,by rintro ah s Y H Q I ⟨J,M,st,k⟩;exact h ah s Y J M H _ I st λv u s1 H1 bx M1 I1 r1 q1 q2 q3=>#[v,H1,I1,r1,k v H1 bx M1 q1 q2 q3],λY J M H Q s k=>#[J,M,s,k]]
theorem dz.of (h:∀(ah: ~~~1) (s:Shared) (Y:Sg) (J M:List Addr) (H:Hp) (Post:Bool->Shared->Prop),L2.Inv X ah Y H s->S z g Y J M H->
  (∀s1 H1 bx M1,L2.Inv X ah Y H1 s1->S z g1 Y bx M1 H1->aq M H M1 H1->Post b s1)->wpAny (~~~2) X.A (isTrue e X.env (eval e X.env)) Post X.xe s):dz X z e g b g1:=
 #[λY H Q=>∃J M,S z g Y J M H/\(∀H' aF M',S z g1 Y aF M' H'->aq M H M' H'->Q b H'),by rintro ah s Y H Q I ⟨J,M,st,k⟩;exact h ah s Y J M H _ I st λs1 H1 bx M1 I1 q1 q2=>#[H1,I1,k H1 bx M1 q1 q2],λY J M H Q s k=>#[J,M,s,k]]
inductive uM(X:Cx)(z:Z):D->List CmpOp->List Expr->G->Bool->G->Prop
 |last {d1 d2:D}{op:CmpOp}{b:Expr}{g g1:G}{c:Bool}:aB X z b g (.dat d2) g1->lH X z (compareOp op) d1 d2 (.dat (.bl c))->uM X z d1 [op] [b] g c g1
 |stop {d1 d2:D}{op op':CmpOp}{ops:List CmpOp}{b b':Expr}{bs:List Expr}{g g1:G}:aB X z b g (.dat d2) g1->lH X z (compareOp op) d1 d2 (.dat (.bl false))->uM X z d1 (op::op'::ops) (b::b'::bs) g false g1
 |link {d1 d2:D}{op op':CmpOp}{ops:List CmpOp}{b b':Expr}{bs:List Expr}{g g1 g2:G}{c:Bool}:aB X z b g (.dat d2) g1->lH X z (compareOp op) d1 d2 (.dat (.bl true))->uM X z d2 (op'::ops) (b'::bs) g1 c g2->uM X z d1 (op::op'::ops) (b::b'::bs) g c g2
theorem Wo(h:uM X z d1 ops bs g c g'):∀(ah: ~~~1) (s:Shared) (Y:Sg) (H:Hp) (J M:List Addr) (Post:Value->Shared->Prop) (v1:V) (u1:Value),L2.Inv X ah Y H s->S z g Y J M H->Rep z.K M H d1 v1->RelV v1 u1->
  (∀s1 H' aF M',L2.Inv X ah Y H' s1->S z g' Y aF M' H'->aq M H M' H'->Post (.bool c) s1)->wpAny (~~~2) X.A (compareChain pos u1 ops (evalEach bs X.env)) Post X.xe s:=by
 induction h with
 |@last d1 d2 op b g g1 c he ho=>
  intro ah s Y H J M Post v1 u1 I st r rv k;refine chain_last (he.run I st λv u s1 H1 bx M1 I1 r1 q1 q2 q3=>ho.run I1 q1 (.of (r.stay q2)) (.of q3) rv r1 λv' u' s2 H2 bI M2 I2 r2 p1 p2 p3=>?_)
  rw[gS p3]at r2;cases r2;exact k s2 H2 bI M2 I2 p1 (q2.trans p2)
 |@stop d1 d2 op op' ops b b' bs g g1 he ho=>
  intro ah s Y H J M Post v1 u1 I st r rv k;refine chain_link (he.run I st λv u s1 H1 bx M1 I1 r1 q1 q2 q3=>ho.run I1 q1 (.of (r.stay q2)) (.of q3) rv r1 λv' u' s2 H2 bI M2 I2 r2 p1 p2 p3=>?_)
  rw[gS p3]at r2;cases r2;exact oQ (ite_ff (k s2 H2 bI M2 I2 p1 (q2.trans p2)))
 |@link d1 d2 op op' ops b b' bs g g1 g2 c he ho hch ih=>
  intro ah s Y H J M Post v1 u1 I st r rv k;refine chain_link (he.run I st λv u s1 H1 bx M1 I1 r1 q1 q2 q3=>ho.run I1 q1 (.of (r.stay q2)) (.of q3) rv r1 λv' u' s2 H2 bI M2 I2 r2 p1 p2 p3=>?_)
  rw[gS p3]at r2;cases r2;exact oQ (ite_tt (ih ah s2 Y H2 bI M2 Post v u I2 p1 (Rep.stay p2 q3) r1 λs3 H3 rF M3 I3 w1 w2=>k s3 H3 rF M3 I3 w1 ((q2.trans p2).trans w2)))
theorem PN(h:uM X z d1 ops bs g c g'):∀(ah: ~~~1) (s:Shared) (Y:Sg) (H:Hp) (J M:List Addr) (Post:Bool->Shared->Prop) (v1:V) (u1:Value),L2.Inv X ah Y H s->S z g Y J M H->Rep z.K M H d1 v1->RelV v1 u1->
  (∀s1 H' aF M',L2.Inv X ah Y H' s1->S z g' Y aF M' H'->aq M H M' H'->Post c s1)->wpAny (~~~2) X.A (testChain pos u1 ops (evalEach bs X.env)) Post X.xe s:=by
 induction h with
 |@last d1 d2 op b g g1 c he ho=>
  intro ah s Y H J M Post v1 u1 I st r rv k;refine test_last (he.run I st λv u s1 H1 bx M1 I1 r1 q1 q2 q3=>ho.run I1 q1 (.of (r.stay q2)) (.of q3) rv r1 λv' u' s2 H2 bI M2 I2 r2 p1 p2 p3=>?_)
  rw[gS p3]at r2;cases r2;exact oQ (k s2 H2 bI M2 I2 p1 (q2.trans p2))
 |@stop d1 d2 op op' ops b b' bs g g1 he ho=>
  intro ah s Y H J M Post v1 u1 I st r rv k;refine test_link (he.run I st λv u s1 H1 bx M1 I1 r1 q1 q2 q3=>ho.run I1 q1 (.of (r.stay q2)) (.of q3) rv r1 λv' u' s2 H2 bI M2 I2 r2 p1 p2 p3=>?_)
  rw[gS p3]at r2;cases r2;exact oQ (ite_ff (k s2 H2 bI M2 I2 p1 (q2.trans p2)))
 |@link d1 d2 op op' ops b b' bs g g1 g2 c he ho hch ih=>
  intro ah s Y H J M Post v1 u1 I st r rv k;refine test_link (he.run I st λv u s1 H1 bx M1 I1 r1 q1 q2 q3=>ho.run I1 q1 (.of (r.stay q2)) (.of q3) rv r1 λv' u' s2 H2 bI M2 I2 r2 p1 p2 p3=>?_)
  rw[gS p3]at r2;cases r2;exact oQ (ite_tt (ih ah s2 Y H2 bI M2 Post v u I2 p1 (Rep.stay p2 q3) r1 λs3 H3 rF M3 I3 w1 w2=>k s3 H3 rF M3 I3 w1 ((q2.trans p2).trans w2)))
theorem Jz(ha:aB X z a g (.dat d1) g1)(h:uM X z d1 (Wq::Wr::ops) (b1::b2::bs) g1 c g2)(hm:lastMarks (Wq::Wr::ops) (b1::b2::bs)=false):aB X z (.Compare a (Wq::Wr::ops) (b1::b2::bs) pos) g (.dat (.bl c)) g2:=
 aB.of λah s Y J M H Post I st k=>Compare_chain (ha.run I st λv u s1 H1 bx M1 I1 r1 q1 q2 q3=>Wo h ah s1 Y H1 bx M1 Post v u I1 q1 q3 r1 λs2 H2 bI M2 I2 p1 p2=>k (.bl c) (.bool c) s2 H2 bI M2 I2 rfl p1 (q2.trans p2) (.bl c)) hm
theorem JB(ha:aB X z a g (.dat d1) g1)(h:uM X z d1 (Wq::Wr::ops) (b1::b2::bs) g1 c g2)(hm:lastMarks (Wq::Wr::ops) (b1::b2::bs)=false):dz X z (.Compare a (Wq::Wr::ops) (b1::b2::bs) pos) g c g2:=
 dz.of λah s Y J M H Post I st k=>isTrue_chain (ha.run I st λv u s1 H1 bx M1 I1 r1 q1 q2 q3=>PN h ah s1 Y H1 bx M1 Post v u I1 q1 q3 r1 λs2 H2 bI M2 I2 p1 p2=>k s2 H2 bI M2 I2 p1 (q2.trans p2)) hm
inductive nM(X:Cx)(z:Z)(c:Expr)(body:List Stmt):Nat->G->Fl->G->Prop
 |done {n:Nat}{g g1:G}:dz X z c g false g1->nM X z c body n g .nx g1
 |next {n:Nat}{g g1 g2 g3:G}{f:Fl}:dz X z c g true g1->fz X z body g1 .nx g2->nM X z c body n g2 f g3->nM X z c body (n+1) g f g3
 |cont {n:Nat}{g g1 g2 g3:G}{f:Fl}:dz X z c g true g1->fz X z body g1 .ct g2->nM X z c body n g2 f g3->nM X z c body (n+1) g f g3
 |brk {n:Nat}{g g1 g2:G}:dz X z c g true g1->fz X z body g1 .bk g2->nM X z c body n g .nx g2
 |ret {n:Nat}{g g1 g2:G}{r:R}:dz X z c g true g1->fz X z body g1 (.rt r) g2->nM X z c body n g (.rt r) g2
def ttAny(X:Cx)(e:Expr):TT:=λY H Q=>∃t,PT X e t/\t Y H Q
theorem Ws{e:Expr}:PT X e (ttAny X e):=λah s Y H Q I h=>let #[t,q,k]:=h;q ah s Y H Q I k
theorem JC{ce:Expr}{body:List Stmt}{n:Nat}{f:Fl}{g':G}(hp:PassesOwn (~~~2) X.A X.env X.xe)(h:nM X z ce body n g f g'):jy X z (.While ce body [] pos) g f g':=by
 refine#[_,HX hp Ws BL,λY J M H E s k=>?_]
 refine#[λm σ2 H2=>∃g2 bI M2,S z g2 σ2 bI M2 H2/\aq M H M2 H2/\nM X z ce body m g2 f g',#[n,g,J,M,s,aq.refl _ _,h],?_]
 rintro m σ2 H2 ⟨g2,bI,M2,s2,aK,w⟩;cases w with
 |done hc=>obtain⟨t,q,kt⟩:=hc;exact#[t,q,kt σ2 bI M2 H2 _ s2 λH3 rF M3 s3 dZ=>oY (k σ2 rF M3 H3 s3 (aK.trans dZ))]
 |@next m' _ g3 g4 _ _ hc hb w'=>
  obtain⟨t,q,kt⟩:=hc;obtain⟨tb,qb,kb⟩:=hb;refine#[t,q,kt σ2 bI M2 H2 _ s2 λH3 rF M3 s3 dZ=>kr #[λσ' H'=>∃g2 bI M2,S z g2 σ' bI M2 H'/\aq M H M2 H'/\nM X z ce body m' g2 f g',λσ' H' hN=>#[m',oI _,hN],tb,qb,kb σ2 rF M3 H3 _ s3 λσ4 jO M4 H4 s4 vO=>?_]]
  exact#[g4,jO,M4,s4,(aK.trans dZ).trans vO,w']
 |@cont m' _ g3 g4 _ _ hc hb w'=>
  obtain⟨t,q,kt⟩:=hc;obtain⟨tb,qb,kb⟩:=hb;refine#[t,q,kt σ2 bI M2 H2 _ s2 λH3 rF M3 s3 dZ=>kr #[λσ' H'=>∃g2 bI M2,S z g2 σ' bI M2 H'/\aq M H M2 H'/\nM X z ce body m' g2 f g',λσ' H' hN=>#[m',oI _,hN],tb,qb,kb σ2 rF M3 H3 _ s3 λσ4 jO M4 H4 s4 vO=>?_]]
  exact#[g4,jO,M4,s4,(aK.trans dZ).trans vO,w']
 |brk hc hb=>obtain⟨t,q,kt⟩:=hc;obtain⟨tb,qb,kb⟩:=hb;exact#[t,q,kt σ2 bI M2 H2 _ s2 λH3 rF M3 s3 dZ=>kr #[λ_ _=>False,λσ' H' hN=>hN.elim,tb,qb,kb σ2 rF M3 H3 _ s3 λσ4 jO M4 H4 s4 vO=>k σ4 jO M4 H4 s4 ((aK.trans dZ).trans vO)]]
 |ret hc hb=>obtain⟨t,q,kt⟩:=hc;obtain⟨tb,qb,kb⟩:=hb;exact#[t,q,kt σ2 bI M2 H2 _ s2 λH3 rF M3 s3 dZ=>kr #[λ_ _=>False,λσ' H' hN=>hN.elim,tb,qb,kb σ2 rF M3 H3 _ s3 λv σ4 jO M4 H4 s4 vO R=>k v σ4 jO M4 H4 s4 ((aK.trans dZ).trans vO) R]]
noncomputable def PX:D->Option Bool
 |.bl b=>!b
 |.non=>!false
 |.int i=>!(i != 0)
 |.lst l=>!((not l.isEmpty))
 |.tup l=>!((not l.isEmpty))
 |.fix l=>!((not l.isEmpty))
 |_=>none
end
end Ev
namespace HT
section
theorem jz{t sl:Addr}{items:Array Value}{vl vu:Value}{lo hi:Option Int}{Q:Value->Shared->Prop}(ht:IsTup s.heap t items)(hs:s.heap.IsSliceOf sl vl vu .none)(pl:IsPart vl lo)(pu:IsPart vu hi)
  (hw:cH items.size 0 lo=0/\cH items.size items.size hi=items.size)
  (h:Q (.ref t) s):wpAny (model prog w) A (getItem (.ref t) (.ref sl)) Q E s:=by
 obtain⟨os,hos,hcs,hds⟩:=id hs;have hTs:s.TypeIs (.ref sl) "slice" :=#[os,hos,hcs];unfold getItem
 try with_reducible refine l7 ?_
 first |refine aS (dA ?_) |skip
 refine aS (wpAny_sequenceKey ht.typeIs ⋯ ?_);refine aS (t7 ht.typeIs v0
  (o3 v0 ht.typeIs entry_tuple_getitem ?_ (args_tuple_getitem _ _)))
 show wpAny _ _ (Builtin.Tuple.tupleItemsOf (.ref t) >>= _) _ _ s;refine aS (tupleItemsOf_ ht ?_);refine aS (BY hTs ?_);refine aS (gK hs pl pu ?_);have hyes:(((cH items.size 0 lo:Nat):Int)==0&&(1:Int)==1&&(cH items.size items.size hi - cH items.size 0 lo)==items.size)=true:=by rw[hw.1,hw.2];simp
 show wpAny _ _ (if (((cH items.size 0 lo:Nat):Int)==0&&(1:Int)==1&&(cH items.size items.size hi - cH items.size 0 lo)==items.size)=true then _ else _) _ _ s
 rw[eR hyes];refine aS (aS (BY ht.typeIs (dA ?_)));exact aS (A5 (dA #[_,rfl,dA h]))
end
end HT
namespace Ev
open L2
def jA{α:Type}(xs:List α)(lo hi:Option Int):List α:=(xs.drop (HT.cH xs.length 0 lo)).take (HT.cH xs.length xs.length hi - HT.cH xs.length 0 lo)
theorem zo{α:Type}{xs:List α}{lo hi:Option Int}(h:HT.cH xs.length 0 lo=0/\HT.cH xs.length xs.length hi=xs.length):jA xs lo hi=xs:=by unfold jA;rw[h.1,h.2,List.drop_zero,Nat.sub_zero,List.take_length]
section
variable{lo hi:Option Expr}
def rSlA(K:Frag):V->Option Int->Option Int->Hp->VK->Prop:=λx lo hi H Q=>∃a xs,x=.ref a/\iO K H a xs/\
 ((HT.cH xs.length 0 lo=0/\HT.cH xs.length xs.length hi=xs.length/\Q (.ref a) H)\/(¬ (HT.cH xs.length 0 lo=0/\HT.cH xs.length xs.length hi=xs.length)/\∀p,H p=none->Q (.ref p) (upd H p (.tup (zg xs lo hi)))))
theorem P0:SlR X (rSlA X.K):=by
 intro ah s Y H x v vl vu lo hi sl Q I rx hs pl pu h;obtain⟨a,xs,rfl,hx,h⟩:=h;rcases h with ⟨h1,h2,q⟩ |⟨h1,q⟩
 .
  cases rx;obtain⟨its,r,ht,hz⟩:=I.tuple hx;have aJ:its.toArray.size=xs.length:=by rw[d5];exact r.length.symm
  refine#["tuple",_,PyProof.Rows.slot_tuple_getitem.lookup,ht.typeIs,?_];exact HT.jz ht hs pl pu (by rw[aJ];exact#[h1,h2]) #[.ref a,H,I,rfl,q]
 . exact Va ah s Y H (.ref a) v vl vu lo hi sl Q I rx hs pl pu #[a,xs,rfl,hx,h1,q]
def uN(X:Cx)(z:Z)(e:Option Expr)(g:G)(o:Option Int)(g':G):Prop:=
 ∃t,PO X e t/\∀Y J M H (Q:Option Int->Hp->Prop),S z g Y J M H->(∀H' aF M',S z g' Y aF M' H'->aq M H M' H'->Q o H')->t Y H Q
theorem Fb:uN X z none g none g:=#[_,Ol,λY J M H Q s k=>k H J M s (aq.refl _ _)]
theorem Fc(h:aB X z e g ‹i› g1):uN X z (!e) g (!i) g1:=by
 obtain⟨t,q,k⟩:=h;refine#[_,Om q,λY J M H Q s kk=>k Y J M H _ s λv H' aF M' s' st R=>?_]
 have R':=R;cases R';exact#[i,rfl,kk H' aF M' s' st]
theorem aH.cut{K:Frag}{M:List Addr}{H:Hp}{ds:List D}{vs:List V}(r:aH K M H ds vs)(l u:Option Int):aH K M H (jA ds l u) (zg vs l u):=by unfold jA zg;rw[r.length];exact aH.take _ (aH.drop _ r)
theorem Fd{r:R}{l:List D}{d:D}{i j:Option Int}(hK:z.K=X.K)(h:aB X z a g r g1)(h1:uN X z lo g1 i g2)(h2:uN X z hi g2 j g3)(hp:pk r g3=!(.lst l)):aB X z (.Subscript a (.Slice lo hi none p2) pos) g (.new (jA l i j)) g3:=by
 obtain⟨t,q,k⟩:=h;obtain⟨t1,q1,k1⟩:=h1;obtain⟨t2,q2,k2⟩:=h2;refine#[_,oX Bw q q1 q2,λY J M H Q s kk=>k Y J M H _ s λv H1 bx M1 s1 fP R=>k1 Y bx M1 H1 _ s1 λH2 bI M2 s2 aK=>k2 Y bI M2 H2 _ s2 λH3 rF M3 s3 dZ=>?_]
 obtain⟨b,xs,rfl,e1,e2⟩:=(s3.pk (aK.trans dZ) R hp).list;refine#[b,xs,rfl,cZ.of e1,λp hp=>?_]
 exact kk _ _ rF (p::M3) (s3.aP hp) (((fP.trans aK).trans dZ).trans (aq.aP hp)) #[p,_,rfl,b0,λhA=>s3.fresh hp (s3.sub p hA),s3.bZ hp,aE,(e2.cut i j).stay (aq.aP hp)]
theorem Fe(hK:z.K=X.K)(h:aB X z a g (.dat (.fix l)) g1)(h1:uN X z lo g1 i g2)(h2:uN X z hi g2 j g3):aB X z (.Subscript a (.Slice lo hi none p2) pos) g (.new (jA l i j)) g3:=by
 obtain⟨t,q,k⟩:=h;obtain⟨t1,q1,k1⟩:=h1;obtain⟨t2,q2,k2⟩:=h2;refine#[_,oX Bw q q1 q2,λY J M H Q s kk=>k Y J M H _ s λv H1 bx M1 s1 fP R=>k1 Y bx M1 H1 _ s1 λH2 bI M2 s2 aK=>k2 Y bI M2 H2 _ s2 λH3 rF M3 s3 dZ=>?_]
 have R':=Rep.stay (aK.trans dZ) R;cases R' with
 |@fix _ b xs e1 e2=>
  refine#[b,xs,rfl,hK▸e1.sq,λp hp=>?_]
  exact kk _ _ rF (p::M3) (s3.aP hp) (((fP.trans aK).trans dZ).trans (aq.aP hp)) #[p,_,rfl,b0,λhA=>s3.fresh hp (s3.sub p hA),s3.bZ hp,aE,(e2.cut i j).stay (aq.aP hp)]
theorem Ff(hK:z.K=X.K)(h:aB X z a g (.dat (.tup l)) g1)(h1:uN X z lo g1 i g2)(h2:uN X z hi g2 j g3):aB X z (.Subscript a (.Slice lo hi none p2) pos) g (.dat (.tup (jA l i j))) g3:=by
 obtain⟨t,q,k⟩:=h;obtain⟨t1,q1,k1⟩:=h1;obtain⟨t2,q2,k2⟩:=h2;refine#[_,oX P0 q q1 q2,λY J M H Q s kk=>k Y J M H _ s λv H1 bx M1 s1 fP R=>k1 Y bx M1 H1 _ s1 λH2 bI M2 s2 aK=>k2 Y bI M2 H2 _ s2 λH3 rF M3 s3 dZ=>?_]
 have R':=Rep.stay (aK.trans dZ) R;cases R' with
 |@tup _ b xs e1 e2=>
  refine#[b,xs,rfl,hK▸e1.sq,?_];by_cases hw:HT.cH xs.length 0 i=0/\HT.cH xs.length xs.length j=xs.length
  .
   refine .inl #[hw.1,hw.2,kk _ _ rF M3 s3 ((fP.trans aK).trans dZ) ?_];have e:=zo (by rw[e2.length];exact hw)
   rw[e];exact .tup e1 e2
  . exact .inr #[hw,λp hp=>kk _ _ rF M3 (s3.laid hp) (((fP.trans aK).trans dZ).trans (aq.laid hp)) (.tup (.inl #[s3.fresh hp,.inl aE]) ((e2.cut i j).stay (aq.laid hp)))]
theorem JD(hK:z.K=X.K)(h:aB X z e g r g1)(hp:pk r g1=!d)(hb:PX d=!b)(he:∀whole,isTrue e X.env whole=(do let v <- whole;standAt e.pos;holding [v] (truthy v))):dz X z e g b g1:=by
 obtain⟨t,q,k⟩:=h;refine#[_,Ie q he,λY J M H Q s kk=>k Y J M H _ s λv H1 bx M1 s1 fP R=>#[b,?_,kk H1 bx M1 s1 fP]]
 have p:=s1.pk (aq.refl _ _) R hp;cases d with
 |non=>rw[p.non];cases hb;rfl
 |bl c=>rw[p.bl];cases hb;rfl
 |int i=>rw[p.int];cases hb;rfl
 |str x=>cases hb
 |emp _=>cases hb
 |Iv _=>cases hb
 |S7 _ _=>cases hb
 |lst l=>obtain⟨a,xs,rfl,e1,e2⟩:=p.list;cases hb;refine .inl #[xs,cZ.of e1,?_];cases e2 <;> rfl
 |tup l=>obtain⟨a,xs,rfl,e1,e2⟩:=p.tup;cases hb;refine .inr (.inl #[xs,hK▸e1.sq,?_]);cases e2 <;> rfl
 |fix l=>obtain⟨a,xs,rfl,e1,e2⟩:=p.fix;cases hb;refine .inl #[xs,hK▸e1.sq,?_];cases e2 <;> rfl
end
section
structure TyOk(X:Cx)(T:Str)(n:String):Prop where
 gl:Gl X T
 mg:X.mg T=none
 bt:bootBuiltins T=!(.type n)
 nn:T≠ "__name__"
 db:(T==(~~~3))=false
inductive BX(X:Cx):List Expr->List String->Prop
 |nil:BX X [] []
 |cons {T:Str}{n:String}{p:Pos}{es:List Expr}{ns:List String}:TyOk X T n->BX X es ns->BX X (.Name T p::es) (n::ns)
theorem Fg(hN:X.N[i]?=!x)(hv:oH X.env.scope x)(hd:(x==(~~~3))=false)(ie:(x==("__classdict__":Str))=false)(hg:g[i]?=!(.own l0))(h:dB X z [e] g [.dat (.lst m)] g1)(pJ:g1[i]?=!(.own l))(hl:l.length+m.length<=16777216)
  (hbase:attributeBase (.Name x pn) "extend" X.env (eval (.Name x pn) X.env)=eval (.Name x pn) X.env)
  (hline:(nW.endLine==j7.line)=true) (hs:starEach [e] X.env=(false,eval e X.env)::starEach [] X.env):aB X z (.Call (.Attribute (.Name x pn) "extend" nW) [e] [] j7) g (.dat .non) (g1.set i (.own (l++m))):=by
 obtain⟨t,q,k⟩:=h;refine#[_,Bx AR PySem.F.slot_list_extend PySem.F.type_list_extend Ei (d7 hN hv hd ie) q hbase (by rw[hs];rfl) hline hs rfl,λY J M H Q s kk=>?_]
 obtain⟨a,xs,e1,e2,e3,e4⟩:=s.sl.at hg;refine#[.ref a,e1,.inl #[rfl,xs,cZ.of e3],k Y J M H _ s λvs H' aF M' s' st R=>?_]
 obtain⟨b,ys,f1,f2,f3,f4⟩:=s'.sl.at pJ;rw[e1]at f1;injection f1 with f1;injection f1 with f1;injection f1 with f1;subst f1;cases R with
 |dat r R=>
  cases R;cases r with
  |@lst _ c zs hc rr=>
   refine#[a,c,ys,zs,rfl,rfl,f3,hc.2,by rw[<- f4.length,<- rr.length];exact hl,?_]
   obtain⟨s2,aK⟩:=s'.write pJ e1 (f4.append rr);exact kk _ _ aF M' s2 (st.trans aK) .non
end
noncomputable def ins(a:Int): ~~~0->List Int
 | []=>[a]
 |b::l=>if a<=b then a::b::l else b::ins a l
def bO: ~~~0->List Int
 | []=>[]
 |a::l=>ins a (bO l)
theorem pP(a:Int):∀l:List Int,(ins a l).Perm (a::l)
 | []=>t0 _
 |b::l=>by
  unfold ins;split
  . exact t0 _
  . exact ((pP a l).cons b).trans (List.Perm.swap a b l)
theorem aZ:∀l:List Int,(bO l).Perm l
 | []=>t0 _
 |a::l=>(pP a _).trans ((aZ l).cons a)
theorem pQ(a:Int):∀{l: ~~~0},l.Pairwise (· <= ·)->(ins a l).Pairwise (· <= ·)
 | [],_=>List.pairwise_singleton _ _
 |b::l,h=>by
  obtain⟨h1,h2⟩:=oC.mp h;unfold ins;split
  .
   rename_i hab;refine oC.mpr #[λx hx=>?_,h]
   rcases eJ.mp hx with rfl |hx
   . exact hab
   . exact CM hab (h1 x hx)
  .
   rename_i hab;refine oC.mpr #[λx hx=>?_,pQ a h2]
   rcases eJ.mp ((pP a l).mem_iff.mp hx)with rfl |hx
   . lia
   . exact h1 x hx
theorem dc:∀l:List Int,(bO l).Pairwise (· <= ·)
 | []=>List.Pairwise.nil
 |a::l=>pQ a (dc l)
theorem dN(hp:m.Perm l)(hs:m.Pairwise (· <= ·)):m=bO l:=
 (hp.trans (aZ l).symm).eq_of_pairwise (λx y _ _ h1 h2=>Int.le_antisymm h1 h2) hs (dc l)
section
theorem wJ:eF X (.builtin "sorted") (λxs H Q=>∃p ns,xs=[.ref p]/\cZ X.K H p (ns.map V.int)/\ns.length<64/\∀q,H q=none->Q (.ref q) (upd H q (.lst ((bO ns).map V.int)))):=by
 intro ah s Y H xs us Q I r h;obtain⟨p,ns,rfl,hq,hl,q⟩:=h;obtain⟨u,rfl,rx⟩:=vals1 r;cases rx;obtain⟨its,r',pl,hz⟩:=I.list hq;have aJ:=r'.length;rw[d6]at aJ;refine sorted_ints pl.isList (intsAre_of r') ⋯ λout ns' a1 a2 a3=>?_
 have e:=dN a2 a3;subst e;obtain⟨ep,he⟩:=sortedAll_at s.heap its out;have aJ:=(aZ ns).length_eq;refine#[.ref (s⁻¹+1),_,I.laid (λb o e=>sortedAll_old e) (y4 _) ?_,rfl,q _ (I.hok.fresh (y4 _))]
 exact#[by rw[d6,sT];lia,out.toList,ep,lE a1,by rw[he]]
theorem lK{K:Frag}{M:List Addr}{H:Hp}:∀ns:List Int,aH K M H (ns.map D.int) (ns.map V.int)
 | []=>.nil
 |n::ns=>.cons (.int n) (lK ns)
theorem Fj{l:List D}{ns: ~~~0}(hK:z.K=X.K)(hi:bH l=!ns)(hl:ns.length<64):CallD X z (.builtin "sorted") [.lst l] (.new ((bO ns).map .int)):=by
 refine#[_,wJ,λg Y J M H vs Q s p k=>?_]
 obtain⟨v,rfl,pv⟩:=p.one;obtain⟨a,xs,rfl,e1,e2⟩:=pv.list;have:=dM e2 hi;subst this;exact#[a,ns,rfl,cZ.of e1,hl,λq hq=>k _ _ J (q::M) (s.aP hq) (aq.aP hq) #[q,_,rfl,b0,λhA=>s.fresh hq (s.sub q hA),s.bZ hq,aE,lK _]]
end
section
def RgOk(X:Cx)(z:Z)(e:Expr)(g:G)(lo hi:Int)(g1:G):Prop:=
 ∀(ah: ~~~1) (s:Shared) (Y:Sg) (J M:List Addr) (H:Hp) (Post:Value->Shared->Prop),L2.Inv X ah Y H s->S z g Y J M H->
  (∀r s1 H1 bx M1 t u v,L2.Inv X ah Y H1 s1->S z g1 Y bx M1 H1->aq M H M1 H1->IsRange s1.heap r lo hi 1 t u v->Post (.ref r) s1)->wpAny (~~~2) X.A (eval e X.env) Post X.xe s
theorem dB.run(ha:dB X z es g rs g1)(I:L2.Inv X ah Y H s)(st:S z g Y J M H)
  (k:∀vs us s1 H1 bx M1,L2.Inv X ah Y H1 s1->Vals vs us->S z g1 Y bx M1 H1->aq M H M1 H1->jL z Y M1 H1 rs vs->Post us s1):wpAny (~~~2) X.A (spliced (backTo pos (starEach es X.env))) Post X.xe s:=by
 obtain⟨t,q,kt⟩:=ha;exact cF (q pos ah s Y H (λvs H1=>∃bx M1,S z g1 Y bx M1 H1/\aq M H M1 H1/\jL z Y M1 H1 rs vs) I (kt Y J M H _ st λvs H1 bx M1 s1 fP R=>#[bx,M1,s1,fP,R])) (by rintro us s1 ⟨vs,H1,I1,r1,bx,M1,q1,q2,q3⟩;exact k vs us s1 H1 bx M1 I1 r1 q1 q2 q3)
theorem rg_1(h:dB X z [a] g [‹j›] g1)(hg:Gl X "range")(hm:X.mg "range"=none)(hs:starEach [a] X.env=[(false,eval a X.env)]):RgOk X z (.Call (.Name "range" p) [a] [] rp) g 0 j g1:=by
 intro ah s Y J M H Post I st k;refine Call_ (gk I hg hm boot_range (o6 (h.run I st λvs us s1 H1 bx M1 I1 r1 q1 q2 q3=>?_) hs rfl))
 cases q3 with
 |dat r R=>
  cases R;cases r;cases r1 with
  |cons r rr=>cases rr;obtain⟨t,rfl⟩:=r;exact call_range_1 (k _ _ H1 bx M1 _ _ _ (I1.kept λb o e=>dC _ e) q1 q2 (IsRange.new ..))
noncomputable def Fo(lo:Int)(n:Nat):List V:=(List.range n).map λ(k:Nat)=>V.int (lo+(k:Int))
theorem Fp{lo:Int}{n:Nat}{acc:Array Value}(h:ItemsOf (λi v=>∃t,v=Value.int (lo+(i:Int) * 1) t) acc n):Vals (Fo lo n) acc.toList:=by
 have key:∀(m:Nat) (l:List Value) (o:Nat),l.length=m->(∀j v,l[j]?=!v->∃t,v=Value.int (lo+((o+j:Nat):Int)) t)->Vals ((List.range' o m).map λ(k:Nat)=>V.int (lo+(k:Int))) l:=by
  intro m
  induction m with
  |zero=>intro l o hl _;cases l with
   |nil=>exact .nil
   |cons _ _=>simp at hl
  |succ m ih=>
   intro l o hl hv;cases l with
   |nil=>simp at hl
   |cons v l=>
    obtain⟨t,e⟩:=hv 0 v rfl;refine .cons #[t,by rw[e];rfl] (ih l (o+1) (by simpa using hl) λj w hw=>?_)
    obtain⟨t',e'⟩:=hv (j+1) w (by simpa using hw)
    exact#[t',by rw[e',show o+(j+1)=o+1+j by lia]]
 unfold Fo;rw[x4];refine key n acc.toList 0 (by rw[i9];exact h.1) λj v hv=>?_
 obtain⟨t,e⟩:=h.2 j v (by rw[<- AA];exact hv)
 exact#[t,by rw[e,AB,Int.mul_one]]
theorem Fq{K:Frag}{M:List Addr}{H:Hp}(lo:Int)(n:Nat):aH K M H (bQ lo n) (Fo lo n):=by
 unfold bQ Fo
 induction List.range n with
 |nil=>exact .nil
 |cons k l ih=>exact .cons (.int _) ih
theorem JF{e:Expr}{lo hi:Int}(h:RgOk X z e g lo hi g1)(hc:X.calm=true)(hg:Gl X "list")(hm:X.mg "list"=none)(hs:starEach [e] X.env=[(false,eval e X.env)])(h1 : -(2 ^ 62)<=lo/\lo<2 ^ 62/\-(2 ^ 62)<=hi/\hi<2 ^ 62)(hl:(hi - lo).toNat<=16777216) :
  aB X z (.Call (.Name "list" lp) [e] [] pos) g (.new (bQ lo (hi - lo).toNat)) g1:=by
 refine aB.of λah s Y J M H Post I st k=>?_
 refine Call_ (gk I hg hm (by rfl:bootBuiltins ("list":Str)=!(.type "list")) (o6 ?_ hs rfl))
 rw[hs];refine Calls.spliced_cons (h ah s Y J M H _ I st λr s1 H1 bx M1 t u v I1 q1 q2 hr=>Calls.spliced_nil ?_)
 have hn:Builtin.Range.rangeSize lo hi 1=(((hi - lo).toNat:Nat):Int):=by rw[rangeSize_one];split <;> lia
 refine call_list_range (I1.ok.hd hc) hr (small_one h1.1 h1.2.1 h1.2.2.1 h1.2.2.2) hn hl λh' tk acc' c' hk hS' hacc=>?_
 have hf:=I1.hok.fresh (eD _);have s2:=q1.aP (xs:=Fo lo (hi - lo).toNat) hf;have vv:=Fp hacc;have I2:=
  I1.laid (t':=tk) hk (eD _) (show eE X.prog X.w _ h' _ (.lst (Fo lo (hi - lo).toNat))from#[by rw[vv.length,i9,hacc.1];exact sJ hl,acc'.toList,c',vv,by simpa using hS'])
 exact k (.ref s1⁻¹) _ _ _ bx (s1⁻¹::M1) I2 rfl s2 (q2.trans (aq.aP hf)) #[_,_,rfl,b0,λhA=>q1.fresh hf (q1.sub _ hA),q1.bZ hf,aE,Fq _ _]
end
section
theorem BZ{ns: ~~~0}{its:List Value}(r:Vals (ns.map V.int) its){i:Nat}{v:Value}(h:its[i]?=!v):∃t,v=.int (ns.getD i 0) t:=by
 have hi:i<ns.length:=by have:=(dS.mp h).1;have e:=r.length;rw[d6]at e;lia
 obtain⟨w,e1,e2⟩:=r.get (i:=i) (x:=V.int ns[i]) (by simp[hi])
 rw[h]at e1;cases e1;obtain⟨t,e⟩:=e2;exact#[t,by rw[e];simp[hi]]
theorem JG(hc:X.calm=true):eF X (.builtin "sum") (λxs H Q=>∃(p:Addr) (ns: ~~~0),xs=[.ref p]/\(cZ X.K H p (ns.map V.int)\/iO X.K H p (ns.map V.int))/\Q (.int ns.sum) H):=by
 intro ah s Y H xs us Q I r h;obtain⟨p,ns,rfl,hp,q⟩:=h;obtain⟨u,rfl,rx⟩:=vals1 r;cases rx;have hh:X.A.in1.handled=none:=I.ok.hd hc;have fin:∀(o:Obj) (s':Shared) (t':Tok) (its:List Value),Vals (ns.map V.int) its->Moved [s⁻¹] (λa b=>b=a) { s with heap:=s.heap.push o} s'->EP X ah Y Q (.int (preSum (λi=>ns.getD i 0) its.toArray.size) t') s':=by
  intro o s' t' its rv hm;obtain⟨h',g',d',tk',os'⟩:=s';obtain⟨m1,m2,m3,m4,m5⟩:=hm;have e1:=m2;have e2:=m3;have e3:=m4;subst e1 e2 e3;have aJ:its.length=ns.length:=by rw[<- rv.length,d6]
  have I1:L2.Inv X ah Y H { s with heap:=h',toks:=tk'}:=I.kept λb ob e=>m1 b ob (λhm=>by
   have:b=s⁻¹:=by simpa using hm
   exact absurd (fN e) (by rw[this];exact nS _)) (dC _ e)
  refine#[.int ns.sum,H,I1,#[t',?_],q];rw[preSum_getD,d5,aJ,List.take_length]
 rcases hp with hp |hp
 .
  obtain⟨its,rv,pl,hz⟩:=I.list hp;have hlt:p<s⁻¹:=by obtain⟨_,e,_⟩:=pl.isList;exact fN e
  refine call_sum_walkAnyS (AI pl.isList ?_);refine#[s⁻¹,_,_,_,_,_,_,λi=>ns.getD i 0,rfl,(Walks.list hh s⁻¹ p (kA hlt) its.toArray).toS,#[#[_,eQ _ rfl,rfl,rfl],pl.isList.push _],λb hb=>?_,λi v hv=>BZ rv (by simpa using hv),λs' t' hm=>fin _ s' t' its rv hm]
  simp only[eJ,nV,A9]at hb;rcases hb with rfl |rfl
  . exact BC (oI _) (tS _ _).symm
  . exact BC (AK hlt) (tS _ _).symm
 .
  obtain⟨its,rv,pl,hz⟩:=I.tuple hp;have hlt:p<s⁻¹:=by obtain⟨_,e,_⟩:=pl;exact fN e
  have Ft:=pl;refine call_sum_walkAnyS (At Ft ?_);refine#[s⁻¹,_,_,_,_,_,_,λi=>ns.getD i 0,rfl,(Walks.tuple hh s⁻¹ p (kA hlt) its.toArray).toS,#[#[_,eQ _ rfl,rfl,rfl],?_],λb hb=>?_,λi v hv=>BZ rv (by simpa using hv),λs' t' hm=>fin _ s' t' its rv hm]
  . exact IsTup.keeps Ft λb o e=>dC _ e
  .
   simp only[eJ,nV,A9]at hb;rcases hb with rfl |rfl
   . exact BC (oI _) (tS _ _).symm
   . exact BC (AK hlt) (tS _ _).symm
theorem Wt(hc:X.calm=true)(hK:z.K=X.K)(h:dJ d=!l)(hi:bH l=!ns):CallD X z (.builtin "sum") [d] (.dat (.int ns.sum)):=by
 refine#[_,JG hc,λg Y J M H vs Q s p k=>?_]
 obtain⟨v,rfl,pv⟩:=p.one;have fin:=k _ _ J M s (aq.refl _ _) (.int _);cases d with
 |lst m=>symm;obtain⟨a,xs,rfl,e1,e2⟩:=pv.list;have:=dM e2 hi;subst this;exact#[a,ns,rfl,.inl (cZ.of e1),fin]
 |tup m=>symm;obtain⟨a,xs,rfl,e1,e2⟩:=pv.tup;have:=dM e2 hi;subst this;exact#[a,ns,rfl,.inr (hK▸e1.sq),fin]
 |fix m=>symm;obtain⟨a,xs,rfl,e1,e2⟩:=pv.fix;have:=dM e2 hi;subst this;exact#[a,ns,rfl,.inl (hK▸e1.sq),fin]
 |_=>symm
end
noncomputable def veM:List Value:=[.type "ValueError",.type "Exception",.type "BaseException",.type "object"]
abbrev Fv(K:Frag)(C:Addr):Prop:=PySem.W.excIn K C veM "ValueError.__new__"=true
open PySem PySem.W PyProof.Rows
noncomputable def iL{α:Type}(lt:Nat->Nat->Bool):KasT α->α
 |.ret a=>a
 |.ask i j k=>iL lt (k (lt i j))
theorem eV{α β:Type}(lt:Nat->Nat->Bool)(f:α->KasT β):∀t:KasT α,iL lt (t.bind f)=iL lt (f (iL lt t))
 |.ret _=>rfl
 |.ask i j k=>eV lt f (k (lt i j))
structure iu(α:Type) where
 lt:α->α->Bool
 irr:∀a,lt a a=false
 tr:∀a b c,lt a b=true->lt b c=true->lt a c=true
 tot:∀a b,lt a b=false->lt b a=false->a=b
namespace iu
variable{α:Type}(O:iu α)
def le(a b:α):Prop:=O.lt b a=false
variable{O}
theorem le_refl(a:α):O.le a a:=O.irr a
theorem le_of_lt(h:O.lt a b=true):O.le a b:=by
 unfold le;cases e:O.lt b a
 . rfl
 . have:=O.tr _ _ _ h e;rw[O.irr]at this;cases this
theorem sP(h1:O.le a b)(h2:O.le b c):O.le a c:=by
 unfold le at *;cases e:O.lt c a with
 |false=>rfl
 |true=>
  exfalso;cases e1:O.lt a b with
  |true=>have:=O.tr _ _ _ e e1;rw[h2]at this;cases this
  |false=>have hab:=O.tot a b e1 h1;subst hab;rw[h2]at e;cases e
theorem Ca(h1:O.le a b)(h2:O.le b a):a=b:=O.tot a b h2 h1
end iu
section
variable{α:Type}
noncomputable def eG(key:Nat->α)(p:Array Nat)(i:Nat):α:=key (p.getD i 0)
def jB(O:iu α)(key:Nat->α)(p:Array Nat)(n:Nat):Prop:=∀i j,i<=j->j<n->O.le (eG key p i) (eG key p j)
def jR(O:iu α)(key:Nat->α)(p:Array Nat)(n:Nat):Prop:=∀i j,i<=j->j<n->O.le (eG key p j) (eG key p i)
noncomputable def nZ(O:iu α)(key:Nat->α)(i j:Nat):Bool:=O.lt (key i) (key j)
theorem getD_some{p q:Array Nat}{i j:Nat}(h:p[i]?=q[j]?):p.getD i 0=q.getD j 0:=by rw[pE,pE,h]
theorem n5{p:Array Nat}{i j:Nat}(hj:j<=p.size)(k:Nat):eG key (kas_rev p i j) k=if i<=k/\k<j then eG key p (i+j - 1 - k)else eG key p k:=by
 have e:=getElem?_mirror_all (i:=i) hj k;unfold eG kas_rev;split
 . rename_i h;rw[eR h]at e;rw[getD_some e]
 . rename_i h;rw[eP h]at e;rw[getD_some e]
theorem P1{p:Array Nat}{src d:Nat}(hs:src<p.size)(hd:d<=src)(k:Nat):eG key (bubble p src d) k=if k=src - d then eG key p src else if src - d<k/\k<=src then eG key p (k - 1)else eG key p k:=by
 have e:=getElem?_bubble hs d hd k;unfold eG;by_cases h1:k=src - d
 . rw[eR h1]at e ⊢;rw[getD_some e]
 .
  rw[eP h1]at e ⊢
  by_cases h2:src - d<k/\k<=src
  . rw[eR h2]at e ⊢;rw[getD_some e]
  . rw[eP h2]at e ⊢;rw[getD_some e]
theorem jB.ext(h:jB O key p n)(hl:O.lt (eG key p n) (eG key p (n - 1))=false)(h1:1<=n):jB O key p (n+1):=by
 intro i j hij hj;by_cases e:j<n
 . exact h i j hij e
 .
  have:j=n:=by lia
  subst this;by_cases e2:i=j
  . subst e2;exact iu.le_refl _
  . exact iu.sP (h i (j - 1) ⋯ ⋯) hl
theorem zp:∀(f n:Nat),1<=n->jB O key p n->∃m,iL (nZ O key) (kas_asc p f n)=m/\n<=m/\m<=n+f/\jB O key p m/\(m<n+f->O.lt (eG key p m) (eG key p (m - 1))=true)
 | 0,n,_,h=>#[n,rfl,eD _,eD _,h,λz=>absurd z (nS _)]
 |f+1,n,h1,h=>by
  show ∃m,iL (nZ O key) (if nZ O key (p.getD n 0) (p.getD (n - 1) 0)=true then KasT.ret n else kas_asc p f (n+1))=m/\_
  cases e:nZ O key (p.getD n 0) (p.getD (n - 1) 0)with
  |true=>exact#[n,rfl,eD _,by lia,h,λ_=>e]
  |false=>obtain⟨m,q1,q2,q3,q4,q5⟩:=zp f (n+1) ⋯ (h.ext e h1);exact#[m,q1,by lia,by lia,q4,λz=>q5 ⋯]
theorem jR.ext(h:jR O key p n)(hl:O.le (eG key p n) (eG key p (n - 1)))(h1:1<=n):jR O key p (n+1):=by
 intro i j hij hj;by_cases e:j<n
 . exact h i j hij e
 .
  have:j=n:=by lia
  subst this;by_cases e2:i=j
  . subst e2;exact iu.le_refl _
  . exact iu.sP hl (h i (j - 1) ⋯ ⋯)
theorem jR.Wu(h:jR O key p n)(hk:∀k,eG key p' k=eG key p k):jR O key p' n:=λi j a b=>by rw[hk,hk];exact h i j a b
def Eqs(key:Nat->α)(p:Array Nat)(n q:Nat):Prop:=q+1<=n/\∀k,n - (q+1)<=k->k<n->eG key p k=eG key p (n - 1)
theorem Cb(h:Eqs key p n q)(hz:n<=p.size)(k:Nat):eG key (kas_rev p (n - (q+1)) n) k=eG key p k:=by
 rw[n5 hz];split
 . rename_i hk;rw[h.2 k hk.1 hk.2,h.2 (n - (q+1)+n - 1 - k) ⋯ ⋯]
 . rfl
theorem n6:∀(f:Nat) (p:Array Nat) (n q:Nat),1<=n->n+f<=p.size->jR O key p n->Eqs key p n q->
  ∃p' m q',iL (nZ O key) (kas_desc f p n q)=(p',m,q')/\p'.Perm p/\n<=m/\m<=n+f/\jR O key p' m/\Eqs key p' m q'
 | 0,p,n,q,_,_,h,hq=>#[p,n,q,rfl,BD _,eD _,eD _,h,hq]
 |f+1,p,n,q,h1,hz,h,hq=>by
  show ∃p' m q',iL (nZ O key) (if nZ O key (p.getD n 0) (p.getD (n - 1) 0)=true then (if q > 0 then kas_desc f (kas_rev p (n - (q+1)) n) (n+1) 0 else kas_desc f p (n+1) 0)
   else .ask (p.getD (n - 1) 0) (p.getD n 0) λd=>if d=true then .ret (p,n,q)else kas_desc f p (n+1) (q+1))=(p',m,q')/\_
  cases e:nZ O key (p.getD n 0) (p.getD (n - 1) 0)with
  |true=>
   have hl:=iu.le_of_lt e;have one:∀p':Array Nat,Eqs key p' (n+1) 0:=λp'=>#[by lia,λk a b=>by have:k=n:=⋯;subst this;rfl]
   by_cases hq0:q > 0
   .
    rw[eR hq0];have hk:=Cb hq (by lia:n<=p.size)
    have hF:=(h.ext hl h1).Wu hk;obtain⟨p',m,q',r1,r2,r3,r4,r5,r6⟩:=n6 f (kas_rev p (n - (q+1)) n) (n+1) 0 ⋯ (by rw[kas_rev_size];lia) hF (one _)
    exact#[p',m,q',r1,r2.trans (mirror_perm _ _ _ _),by lia,by lia,r5,r6]
   . rw[eP hq0];obtain⟨p',m,q',r1,r2,r3,r4,r5,r6⟩:=n6 f p (n+1) 0 ⋯ ⋯ (h.ext hl h1) (one _);exact#[p',m,q',r1,r2,by lia,by lia,r5,r6]
  |false=>
   show ∃p' m q',iL (nZ O key) (if nZ O key (p.getD (n - 1) 0) (p.getD n 0)=true then .ret (p,n,q)else kas_desc f p (n+1) (q+1))=(p',m,q')/\_
   cases e2:nZ O key (p.getD (n - 1) 0) (p.getD n 0)with
   |true=>exact#[p,n,q,rfl,BD _,eD _,by lia,h,hq]
   |false=>
    have he:eG key p n=eG key p (n - 1):=O.tot _ _ e e2;have hq':Eqs key p (n+1) (q+1):=#[by have:=hq.1;lia,λk a b=>by
     show eG key p k=eG key p n;by_cases hk:k=n
     . subst hk;rfl
     .
      rw[he];exact hq.2 k ⋯ ⋯]
    obtain⟨p',m,q',r1,r2,r3,r4,r5,r6⟩:=n6 f p (n+1) (q+1) ⋯ ⋯ (h.ext (by rw[he];exact iu.le_refl _) h1) hq'
    exact#[p',m,q',r1,r2,by lia,by lia,r5,r6]
theorem JH(h:jR O key p n)(hz:n<=p.size):jB O key (kas_rev p 0 n) n:=λi j a b=>by
 rw[n5 hz,n5 hz,eR #[by lia,by lia],eR #[by lia,by lia]]
 exact h _ _ ⋯ ⋯
theorem wL(h1:1<=n)(hn:n<=nrem)(hz:nrem<=p.size)(h:jR O key p n):∃m p',iL (nZ O key) (kas_tail3 n nrem p)=(m,p')/\p'.Perm p/\1<=m/\m<=nrem/\jB O key p' m:=by unfold kas_tail3;rw[eV];obtain⟨m,q1,q2,q3,q4,_⟩:=zp (nrem - n) n h1 (JH h ⋯);rw[q1];exact#[m,_,rfl,mirror_perm _ _ _ _,by lia,by lia,q4]
theorem mU(h1:1<=n)(hn:n+1<=nrem)(hz:nrem<=p.size)(h:jR O key p (n+1)):∃m p',iL (nZ O key) (kas_descPart n nrem p)=(m,p')/\p'.Perm p/\1<=m/\m<=nrem/\jB O key p' m:=by
 unfold kas_descPart;rw[eV];obtain⟨p',m,q',r1,r2,r3,r4,r5,r6⟩:=n6 (nrem - (n+1)) p (n+1) 0 ⋯ ⋯ h #[by lia,λk a b=>by have:k=n:=⋯;subst this;rfl]
 rw[r1];have hs:=r2.size_eq;by_cases hq:q' > 0
 .
  rw[eR hq];have hk:=Cb r6 (by lia:m<=p'.size)
  obtain⟨m',p2,s1,s2,s3,s4,s5⟩:=wL (nrem:=nrem) ⋯ ⋯ (by rw[kas_rev_size];lia) (r5.Wu hk)
  exact#[m',p2,s1,(s2.trans (mirror_perm _ _ _ _)).trans r2,s3,s4,s5]
 . rw[eP hq];obtain⟨m',p2,s1,s2,s3,s4,s5⟩:=wL (nrem:=nrem) ⋯ ⋯ ⋯ r5;exact#[m',p2,s1,s2.trans r2,s3,s4,s5]
theorem JK(h1:1<=n)(hz:n<=p.size):∃m p',iL (nZ O key) (kas_count n p)=(m,p')/\p'.Perm p/\1<=m/\m<=n/\jB O key p' m:=by
 unfold kas_count;rw[eV];obtain⟨m,q1,q2,q3,q4,q5⟩:=zp (O:=O) (n - 1) 1 (eD _) (λi j a b=>by have e1:i=0:=⋯;have e2:j=0:=⋯;subst e1;subst e2;exact iu.le_refl _)
 rw[q1];by_cases e1:(m==n)=true
 . rw[eR e1];exact#[m,p,rfl,BD _,q2,by lia,q4]
 .
  rw[eP e1];have hlt:=q5 ⋯;by_cases e2:m > 1
  .
   rw[eR e2];show ∃m' p',iL (nZ O key) (if nZ O key (p.getD 0 0) (p.getD (m - 1) 0)=true then KasT.ret (m,p)else kas_descPart m n (kas_rev p 0 m))=(m',p')/\_
   cases e3:nZ O key (p.getD 0 0) (p.getD (m - 1) 0)with
   |true=>exact#[m,p,rfl,BD _,q2,by lia,q4]
   |false=>
    have eq0:∀k,k<m->eG key p k=eG key p (m - 1):=λk hk=>by
     refine iu.Ca (q4 k (m - 1) ⋯ ⋯) ?_;exact iu.sP (show O.le (eG key p (m - 1)) (eG key p 0)from e3) (q4 0 k ⋯ hk)
    have hk:∀k,eG key (kas_rev p 0 m) k=eG key p k:=λk=>by
     rw[n5 ⋯];split
     . rw[eq0 _ ⋯,eq0 k ⋯]
     . rfl
    have hF:jR O key (kas_rev p 0 m) (m+1):=by
     refine jR.Wu (jR.ext (λi j a b=>?_) (iu.le_of_lt hlt) ⋯) hk
     rw[eq0 i ⋯,eq0 j b];exact iu.le_refl _
    obtain⟨m',p2,s1,s2,s3,s4,s5⟩:=mU q2 (by lia:m+1<=n) (by rw[kas_rev_size];exact hz) hF
    exact#[m',p2,s1,s2.trans (mirror_perm _ _ _ _),s3,s4,s5]
  .
   rw[eP e2];have hF:=jR.ext (λi j a b=>by have e1:i=0:=⋯;have e2:j=0:=⋯;subst e1;subst e2;exact iu.le_refl _) (iu.le_of_lt hlt) q2
   exact mU q2 ⋯ hz hF
theorem pR(hR:jB O key p k):∀(f l r:Nat),l<=r->r<=k->r - l<=f->(∀i,i<l->O.le (eG key p i) (eG key p k))->(∀i,r<=i->i<k->O.lt (eG key p k) (eG key p i)=true)->
  ∃m,iL (nZ O key) (kas_place p k f l r)=m/\m<=k/\(∀i,i<m->O.le (eG key p i) (eG key p k))/\∀i,m<=i->i<k->O.lt (eG key p k) (eG key p i)=true
 | 0,l,r,h1,h2,h3,h4,h5=>#[l,rfl,by lia,h4,λi a b=>h5 i ⋯ b]
 |f+1,l,r,h1,h2,h3,h4,h5=>by
  unfold kas_place;by_cases e:l ≥ r
  . rw[eR e];exact#[l,rfl,by lia,h4,λi a b=>h5 i ⋯ b]
  .
   rw[eP e];show ∃m,iL (nZ O key) (if nZ O key (p.getD k 0) (p.getD ((l+r) / 2) 0)=true then kas_place p k f l ((l+r) / 2)else kas_place p k f ((l+r) / 2+1) r)=m/\_
   cases e2:nZ O key (p.getD k 0) (p.getD ((l+r) / 2) 0)with
   |true=>
    refine pR hR f l ((l+r) / 2) ⋯ ⋯ ⋯ h4 λi a b=>?_
    by_cases hi:r<=i
    . exact h5 i hi b
    .
     have q:=hR _ _ a b;cases e3:O.lt (eG key p k) (eG key p i)with
     |true=>rfl
     |false=>
      have:=iu.sP q (show O.le (eG key p i) (eG key p k)from e3)
      have e2':O.lt (eG key p k) (eG key p ((l+r) / 2))=true:=e2;rw[this]at e2';cases e2'
   |false=>
    refine pR hR f ((l+r) / 2+1) r ⋯ h2 ⋯ (λi a=>?_) h5
    exact iu.sP (hR i ((l+r) / 2) ⋯ ⋯) e2
theorem JL:∀(f:Nat) (p:Array Nat) (k:Nat),k+f<=p.size->jB O key p k->∃p',iL (nZ O key) (kas_bin f p k)=p'/\p'.Perm p/\jB O key p' (k+f)
 | 0,p,k,_,h=>#[p,rfl,BD _,h]
 |f+1,p,k,hz,h=>by
  unfold kas_bin;rw[eV];obtain⟨l,q1,q2,q3,q4⟩:=pR h k 0 k (o4 _) (eD _) ⋯ (λi a=>absurd a (mB _)) (λi a b=>absurd (Nat.lt_of_le_of_lt a b) (nS _))
  rw[q1];have hk:=λi=>P1 (key:=key) (p:=p) (src:=k) (d:=k - l) ⋯ ⋯ i
  have hR:jB O key (bubble p k (k - l)) (k+1):=λi j a b=>by
   rw[hk,hk];have e:k - (k - l)=l:=by lia
   rw[e];by_cases i1:i=l
   .
    rw[eR i1];by_cases j1:j=l
    . rw[eR j1];exact iu.le_refl _
    .
     rw[eP j1,eR #[by lia,by lia]]
     exact iu.le_of_lt (q4 (j - 1) ⋯ ⋯)
   .
    rw[eP i1];by_cases i2:l<i/\i<=k
    .
     rw[eR i2,eP ⋯,eR #[by lia,by lia]]
     exact h _ _ ⋯ ⋯
    .
     rw[eP i2];by_cases j1:j=l
     . rw[eR j1];exact q3 i ⋯
     .
      rw[eP j1];by_cases j2:l<j/\j<=k
      . rw[eR j2];exact h _ _ ⋯ ⋯
      . rw[eP j2];exact h _ _ a ⋯
  obtain⟨p',s1,s2,s3⟩:=JL f (bubble p k (k - l)) (k+1) (by rw[bubble_size];lia) hR
  exact#[p',s1,s2.trans (bubble_perm _ _ _),by rw[show k+(f+1)=k+1+f by lia];exact s3]
theorem P4(h1:1<=n):∃p,iL (nZ O key) (kas_sort n)=p/\p.Perm (List.range n).toArray/\jB O key p n:=by
 unfold kas_sort;rw[eV];obtain⟨m,p,q1,q2,q3,q4,q5⟩:=JK (p:=(List.range n).toArray) h1 ⋯;rw[q1];have hs:p.size=n:=by rw[q2.size_eq];simp
 have e:max m 1=m:=by lia
 rw[e];by_cases hm:m<n
 . rw[eR hm];obtain⟨p',s1,s2,s3⟩:=JL (n - m) p m ⋯ q5;exact#[p',s1,s2.trans q2,by rw[show m+(n - m)=n by lia]at s3;exact s3]
 .
  rw[eP hm];have:m=n:=by lia
  subst this;exact#[p,rfl,q2,q5]
end
noncomputable def Cd{α:Type}(n:Nat)(P:α->Prop):KasT α->Prop
 |.ret a=>P a
 |.ask i j k=>i<n/\j<n/\∀b,Cd n P (k b)
theorem Cd.bind{α β:Type}{n:Nat}{P:α->Prop}{Q:β->Prop}{f:α->KasT β}:∀{t:KasT α},Cd n P t->(∀a,P a->Cd n Q (f a))->Cd n Q (t.bind f)
 |.ret a,h,hf=>hf a h
 |.ask _ _ _,h,hf=>#[h.1,h.2.1,λb=>(h.2.2 b).bind hf]
theorem wM{α:Type}{n:Nat}{P:α->Prop}{lt:Nat->Nat->Bool}{cmp:Nat->Nat->(Bool->Shared->Prop)->Shared->Prop}{Q:α->Shared->Prop}{s:Shared}(hc:∀i j C,i<n->j<n->C (lt i j) s->cmp i j C s):∀t:KasT α,Cd n P t->Q (iL lt t) s->t.kasWp cmp Q s
 |.ret _,_,h=>h
 |.ask i j k,ok,h=>hc i j _ ok.1 ok.2.1 (wM hc (k (lt i j)) (ok.2.2 _) h)
def pS(n:Nat)(p:Array Nat):Prop:=0<n/\∀x∈p.toList,x<n
theorem pS.at(h:pS n p)(i:Nat):p.getD i 0<n:=by
 rw[pE];cases e:p[i]? with
 |none=>exact h.1
 |some x=>exact h.2 x (by rw[u7]at e;obtain⟨hi,rfl⟩:=e;simp)
theorem pS.perm(h:pS n p)(e:p'.Perm p):pS n p':=#[h.1,λx hx=>h.2 x ((y7.mp e).mem_iff.mp hx)]
theorem pS.rev(h:pS n p)(i j:Nat):pS n (kas_rev p i j):=h.perm (mirror_perm _ _ _ _)
theorem pS.bub(h:pS n p)(i j:Nat):pS n (bubble p i j):=h.perm (bubble_perm _ _ _)
section
theorem zq(h:pS N p):∀f n,Cd N (λ_=>True) (kas_asc p f n)
 | 0,_=>trivial
 |f+1,n=>#[h.at _,h.at _,λb=>by cases b <;> first |exact trivial |exact zq h f (n+1)]
theorem n8:∀f p n q,pS N p->Cd N (λr=>pS N r.1) (kas_desc f p n q)
 | 0,_,_,_,h=>h
 |f+1,p,n,q,h=>by
  refine#[h.at _,h.at _,λb=>?_]
  dsimp only;cases b with
  |true=>
   by_cases hq:q > 0
   . rw[eR hq];exact n8 f _ _ _ (h.rev _ _)
   . rw[eP hq];exact n8 f _ _ _ h
  |false=>
   refine#[h.at _,h.at _,λd=>?_]
   cases d with
   |true=>exact h
   |false=>exact n8 f _ _ _ h
theorem wN{p:Array Nat}{n nrem:Nat}(h:pS N p):Cd N (λr=>pS N r.2) (kas_tail3 n nrem p):=(zq (h.rev 0 n) _ _).bind λ_ _=>h.rev 0 n
theorem mV{p:Array Nat}{n nrem:Nat}(h:pS N p):Cd N (λr=>pS N r.2) (kas_descPart n nrem p):=by
 refine (n8 _ _ _ _ h).bind λr hr=>?_
 by_cases hq:r.2.2 > 0
 . rw[eR hq];exact wN (pS.rev hr _ _)
 . rw[eP hq];exact wN hr
theorem JM{p:Array Nat}{n:Nat}(h:pS N p):Cd N (λr=>pS N r.2) (kas_count n p):=by
 refine (zq h _ _).bind λm _=>?_
 by_cases e1:(m==n)=true
 . rw[eR e1];exact h
 .
  rw[eP e1];by_cases e2:m > 1
  .
   rw[eR e2];refine#[h.at _,h.at _,λb=>?_]
   cases b with
   |true=>exact h
   |false=>exact mV (h.rev _ _)
  . rw[eP e2];exact mV h
theorem pU(h:pS N p):∀f l r,Cd N (λ_=>True) (kas_place p k f l r)
 | 0,_,_=>trivial
 |f+1,l,r=>by
  unfold kas_place;by_cases e:l ≥ r
  . rw[eR e];exact trivial
  .
   rw[eP e];refine#[h.at _,h.at _,λb=>?_]
   cases b with
   |true=>exact pU h f _ _
   |false=>exact pU h f _ _
theorem JN:∀f p k,pS N p->Cd N (λ_=>True) (kas_bin f p k)
 | 0,_,_,_=>trivial
 |f+1,p,k,h=>(pU h _ _ _).bind λl _=>JN f _ _ (h.bub _ _)
theorem P5{n:Nat}(h:0<n):Cd n (λ_=>True) (kas_sort n):=by
 refine (JM #[h,λx hx=>by simpa using hx]).bind λr hr=>?_
 by_cases e:r.1<n
 . rw[eR e];exact JN _ _ _ hr
 . rw[eP e];exact trivial
end
open L2 PySem.W
section
variable{α:Type}{key:Nat->α}
noncomputable def dO(s:Shared)(a:Addr)(vs:List Value):Shared:={ s with heap:=((s.heap.update a (Obj.mapSeq λ_=>([].toArray))).push (seqObj "tuple" vs.toArray 0)).push (seqObj "list" ([].toArray) 0)}
theorem mW(hb:b≠a)(h:s.heap.get? b=!o):(dO s a vs).heap.get? b=!o:=
 dC _ (dC _ ((mM s.heap _ hb.symm).trans h))
theorem wO(ho:s.heap.get? a=!(seqObj "list" vs.toArray n))(h2:2<=vs.length)(h64:vs.length<64)
  (hk:∀Q:SortKind->Shared->Prop,Q κ (dO s a vs)->wpAny (model prog w) A (keyKind' vs.toArray) Q (λ_ _=>False) (dO s a vs))
  (hc:∀i j C,i<vs.length->j<vs.length->C (nZ O key i j) (dO s a vs)->kas_ask prog w A κ vs i j C (dO s a vs))
  (h:∀p:Array Nat,p.Perm (List.range vs.length).toArray->jB O key p vs.length->P (.done (.ret .none)) { s with heap:=sortedHeap s.heap a vs (p.toList.map λi=>vs.getD i Value.none).toArray}) :
  wpAny (model prog w) A (Builtin.«list.sort» #[[.ref a],[]]) P E s:=by
 obtain⟨e1,Hv⟩:∃e1,(s.heap.update a (Obj.mapSeq λ_=>([].toArray))).get? a=!(seqObj "list" ([].toArray) e1):=#[_,get?_update_seq ho (λ_=>([].toArray))]
 have ho3:(dO s a vs).heap.get? a=!(seqObj "list" ([].toArray) e1):=dC _ (dC _ Hv);have hz:vs.length<=sizeLine:=(by rw[sT];lia)
 rw[list_sort_plain];refine aS (listItems_at ho rfl (aS (listUpdate_at ho rfl (aS (seqEpoch_at Hv rfl (aS (wpAny_newTuple (aS (wpAny_newList (l7 ?_) (o4 _))) (by show vs.length<=_;exact hz))))) (by simpa using hz) (o4 _))))
 have hn : ¬ vs.toArray.size<2:=by rw[d5];lia
 rw[eP hn,eP hn];refine aS (mI (hk (λk s0=>k=κ/\s0=dO s a vs) #[rfl,rfl]) ?_ λ_ _ z=>z.elim)
 rintro _ _ ⟨rfl,rfl⟩;obtain⟨p0,q1,q2,q3⟩:=P4 (n:=vs.length) ⋯;refine aS (mI (kat_run (Q:=λst' s'=>s'=dO s a vs/\failedOf st'=none/\(arrOf st').map (·.2)=(p0.toList.map λi=>vs.getD i Value.none).toArray) (G:=λp s'=>s'=dO s a vs/\p=p0)
  rfl h2 h64 (λp st' s' _ har hf hg=>?_) (wM hc _ (P5 ⋯) #[rfl,q1])) ?_ λ_ _ z=>z)
 . obtain⟨rfl,rfl⟩:=hg;exact#[rfl,hf,kat_snds rfl har]
 .
  rintro⟨⟨⟩,st'⟩ s' ⟨rfl,hf,hout⟩;dsimp only at hf hout ⊢
  have aJ:(p0.toList.map λi=>vs.getD i Value.none).length=vs.length:=by rw[d6,i9,q2.size_eq];simp
  rw[hout];refine aS (seqEpoch_at ho3 rfl (aS (listUpdate_at ho3 rfl ?_ (o4 _) (by show (List.toArray _).size<=_;rw[d5];lia))))
  rw[hf];simp only[bne_self_eq_false];exact dA (h p0 q2 q3)
theorem Ce{β:Type}:∀l:List β,(l.zip l).map (·.2)=l
 | []=>rfl
 |x::l=>by rw[w8,List.map_cons,Ce l]
theorem wQ(ho:s.heap.get? a=!(seqObj "list" vs.toArray n))(h2:vs.length<2)
  (h:P (.done (.ret .none)) { s with heap:=sortedHeap s.heap a vs vs.toArray}):wpAny (model prog w) A (Builtin.«list.sort» ⟨[.ref a],[]⟩) P E s:=by
 obtain⟨e1,Hv⟩:∃e1,(s.heap.update a (Obj.mapSeq λ_=>([].toArray))).get? a=!(seqObj "list" ([].toArray) e1):=#[_,get?_update_seq ho (λ_=>([].toArray))]
 have ho3:(dO s a vs).heap.get? a=!(seqObj "list" ([].toArray) e1):=dC _ (dC _ Hv);have hz:vs.length<=sizeLine:=(by rw[sT];lia)
 rw[list_sort_plain];refine aS (listItems_at ho rfl (aS (listUpdate_at ho rfl (aS (seqEpoch_at Hv rfl (aS (wpAny_newTuple (aS (wpAny_newList (l7 ?_) (o4 _))) (by show vs.length<=_;exact hz))))) (by simpa using hz) (o4 _))))
 have hn:vs.toArray.size<2:=by rw[d5];lia
 dsimp only;rw[eR hn,eR hn];refine aS (dA ?_);refine aS (dA ?_);have hout:(arrOf (SortSt.mk' general' (vs.toArray.zip vs.toArray) ([].toArray) 7 none)).map (·.2)=vs.toArray:=by show (vs.toArray.zip vs.toArray).map (·.2)=vs.toArray;apply Array.toList_inj.mp;simp only[Array.toList_map,Array.toList_zip];exact Ce vs
 rw[hout];refine aS (seqEpoch_at ho3 rfl (aS (listUpdate_at ho3 rfl ?_ (o4 _) (by show vs.toArray.size<=_;rw[d5];lia))))
 rw[eP ⋯];exact dA h
noncomputable def JQ(h:Heap)(vs:List Value):Heap:=((h.push (seqObj "list" ([].toArray) 0)).update h.objs.size (Obj.mapSeq (· ++ vs.toArray))).push (seqObj "list" vs.toArray 0)
theorem sQ(h:Heap)(vs:List Value):((h.push (seqObj "list" ([].toArray) 0)).update h.objs.size (Obj.mapSeq (· ++ vs.toArray))).objs.size=h.objs.size+1:=(Heap.size_update ..).trans (size_push' ..)
theorem uO(h:Heap)(vs:List Value):(JQ h vs).get? (h.objs.size+1)=!(seqObj "list" vs.toArray 0):=by have:=eQ ((h.push (seqObj "list" ([].toArray) 0)).update h.objs.size (Obj.mapSeq (· ++ vs.toArray))) (o:=seqObj "list" vs.toArray 0) rfl;rw[sQ]at this;exact this
theorem wR(e:h.get? b=!o):(JQ h vs).get? b=!o/\b≠h.objs.size+1:=by have hb:=fN e;refine#[dC _ ?_,kA (AK hb)];rw[mM _ _ (Nat.ne_of_gt hb)];exact dC _ e
theorem Fw{l:Addr}{vs:List Value}{Q:Value->Shared->Prop}(hl:s.heap.IsList l vs.toArray)(hz:vs.length<=sizeLine)
  (h:wpAny (model prog w) A.in1.in1 (Builtin.«list.sort» #[[.ref (s⁻¹+1)],[]]) (λf s'=>f=.done (.ret .none)/\Q (.ref (s⁻¹+1)) s') E { s with heap:=JQ s.heap vs}) :
  wpAny (model prog w) A (call (.builtin "sorted") [.ref l]) Q E s:=by
 refine Calls.call_function_entry kind_sorted plain_sorted entry_sorted (args_sorted1 _) ?_;refine aS (dA (aS (collect_list hl ?_ hz)));refine aS (wpAny_newList ?_ hz);rw[sQ];refine aS (l7 (o3 slot_list_sort #[_,uO _ _,rfl] entry_list_sort (mI h (λf s' hf=>#[_,hf.1,?_]) λ_ _ z=>z) (args_list_sort _)))
 exact dA #[_,rfl,hf.2]
end
theorem lM:∀a:List Int,HT.lexLt a a=false
 | []=>rfl
 |x::a=>by rw[HT.cU,eR rfl,lM a]
theorem wU:∀a b c:List Int,HT.lexLt a b=true->HT.lexLt b c=true->HT.lexLt a c=true
 | [],[],_,h,_=>by symm
 |_::_,[],_,h,_=>by symm
 |_,_::_,[],_,h=>by symm
 | [],_::_,_::_,_,_=>rfl
 |x::a,y::b,z::c,h1,h2=>by
  rw[HT.cU]at h1 h2 ⊢
  by_cases e1:x=y
  .
   rw[eR e1]at h1;subst e1;by_cases e2:x=z
   .
    rw[eR e2]at h2 ⊢
    exact wU a b c h1 h2
   .
    rw[eP e2]at h2 ⊢
    exact h2
  .
   rw[eP e1]at h1;by_cases e2:y=z
   . rw[eR e2]at h2;subst e2;rw[eP e1];exact h1
   . rw[eP e2]at h2;rw[eP ⋯];exact i5 ⋯
theorem lN:∀a b:List Int,HT.lexLt a b=false->HT.lexLt b a=false->a=b
 | [],[],_,_=>rfl
 | [],_::_,h,_=>by symm
 |_::_,[],_,h=>by symm
 |x::a,y::b,h1,h2=>by
  rw[HT.cU]at h1 h2;by_cases e:x=y
  . subst e;rw[eR rfl]at h1 h2;rw[lN a b h1 h2]
  .
   rw[eP e]at h1;rw[eP (λz=>e z.symm)]at h2
   lia
def dD:iu (~~~0):=#[HT.lexLt,lM,wU,lN]
section
variable{α:Type}(O:iu α)
noncomputable def Fy(a:α):List α->List α
 | []=>[a]
 |b::l=>if O.lt b a then b::Fy a l else a::b::l
def aN:List α->List α
 | []=>[]
 |a::l=>Fy O a (aN l)
variable{O}
theorem lO(a:α):∀l:List α,(Fy O a l).Perm (a::l)
 | []=>t0 _
 |b::l=>by
  unfold Fy;split
  . exact ((lO a l).cons b).trans (List.Perm.swap a b l)
  . exact t0 _
theorem aQ:∀l:List α,(aN O l).Perm l
 | []=>t0 _
 |a::l=>(lO a _).trans ((aQ l).cons a)
theorem mX(a:α):∀{l:List α},l.Pairwise O.le->(Fy O a l).Pairwise O.le
 | [],_=>List.pairwise_singleton _ _
 |b::l,h=>by
  obtain⟨h1,h2⟩:=oC.mp h;unfold Fy;cases e:O.lt b a with
  |true=>
   refine oC.mpr #[λx hx=>?_,mX a h2]
   rcases eJ.mp ((lO a l).mem_iff.mp hx)with rfl |hx
   . exact iu.le_of_lt e
   . exact h1 x hx
  |false=>
   refine oC.mpr #[λx hx=>?_,h]
   rcases eJ.mp hx with rfl |hx
   . exact e
   . exact iu.sP (show O.le a b from e) (h1 x hx)
theorem dg:∀l:List α,(aN O l).Pairwise O.le
 | []=>List.Pairwise.nil
 |a::l=>mX a (dg l)
theorem dP(hp:m.Perm l)(hs:m.Pairwise O.le):m=aN O l:=
 (hp.trans (aQ l).symm).eq_of_pairwise (λx y _ _ h1 h2=>iu.Ca h1 h2) hs (dg l)
theorem bK{β:Type}(ks:List β)(d:β):(List.range ks.length).map (λi=>ks.getD i d)=ks:=by
 refine AT ⋯ λi h1 h2=>?_
 simp[eA h2]
theorem mY(hp:p.Perm (List.range ks.length).toArray)(hr:jB O (λi=>ks.getD i d) p ks.length):p.toList.map (λi=>ks.getD i d)=aN O ks:=by
 have hl:=y7.mp hp;refine dP ((hl.map _).trans (by rw[bK])) ?_
 rw[AF];intro i j hi hj hij;have hs:p.size=ks.length:=by rw[hp.size_eq];simp
 rw[d6,i9]at hi hj;have:=hr i j (CL hij) ⋯;unfold eG at this;have e1:p.getD i 0=p[i]:=by simp[hi]
 have e2:p.getD j 0=p[j]:=by simp[hj]
 rw[e1,e2]at this;simpa using this
end
open L2 PySem.W
section
theorem JR(hv:IntsAre vs ns):∀{ws:List Value}{ms: ~~~0} (i:Nat),IntsAre ws ms->fin=decide (ns.length<ms.length)->Q (HT.lexLt ns ms) s->KatLex prog w A true fin Q (vs.zip ws) i s:=by
 induction hv with
 |nil=>
  intro ws ms i hu hf h;refine kat_nil ?_;rw[hf];cases hu with
  |nil=>exact h
  |cons _=>exact h
 |@cons n t vs ns hv ih=>
  intro ws ms i hu hf h;cases hu with
  |nil=>refine kat_nil ?_;rw[hf];exact h
  |@cons m t' us ms hu=>
   refine kat_cons (wpAny_eqBool_int (kat_go (λe=>?_) (λe=>?_)))
   .
    have e':=eq_of_beq e;refine kat_yes (ih (i+1) hu (by rw[hf];simp) ?_)
    rw[HT.cU,eR e']at h;exact h
   .
    have e':n≠m:=λq=>by rw[q]at e;simp at e
    rw[HT.cU,eP e']at h;refine kat_no ?_;cases i with
    |zero=>exact oneLt_int h
    |succ i=>exact kat_one _ _ (lt_int h)
theorem sS:Looks M h (typeOf (.int i t)) (.type "int"):=.now
end
section
def gW:List D->Option (~~~5)
 | []=>![]
 |.tup l::ds=>match bH l,gW ds with |!(n::ns),!ur=>!((n::ns)::ur) |_,_=>none
 |_::_=>none
theorem sU(h:Vals xs us):∀{i:Nat},i<xs.length->RelV (xs.getD i .non) (us.getD i .none):=by
 induction h with
 |nil=>intro i hi;exact absurd hi (mB _)
 |cons r _ ih=>
  intro i hi;cases i with
  |zero=>exact r
  |succ i=>exact ih (by simpa using hi)
theorem sV(h:Vals xs us):∀{p:List Nat},(∀i∈p,i<xs.length)->Vals (p.map λi=>xs.getD i .non) (p.map λi=>us.getD i .none)
 | [],_=>.nil
 |i::p,hp=>.cons (sU h (hp i b0)) (sV h λj hj=>hp j (bP _ hj))
theorem P6(e:bH l=!ns):l=ns.map .int:=by
 induction l generalizing ns with
 |nil=>cases e;rfl
 |cons d l ih=>cases d with
  |int i=>
   have e:(match bH l with |some ns=>!(i::ns) |none=>none)=!ns:=e
   cases e2:bH l with
   |none=>rw[e2]at e;cases e
   |some ms=>rw[e2]at e;cases e;rw[List.map_cons,<- ih e2]
  |_=>cases e
theorem aH.pick{K:Frag}{M:List Addr}{H:Hp}{ds:List D}{vs:List V}(h:aH K M H ds vs):∀{o:List Nat},(∀i∈o,i<vs.length)->aH K M H (o.map λi=>ds.getD i .non) (o.map λi=>vs.getD i .non)
 | [],_=>.nil
 |i::o,ho=>by
  refine .cons ?_ (h.pick λj hj=>ho j (bP _ hj))
  have hi:=ho i b0;have hd:i<ds.length:=by rw[h.length];exact hi
  obtain⟨v,e1,e2⟩:=h.get (i:=i) (d:=ds[i]) (by simp[hd])
  have q1:ds.getD i .non=ds[i]:=by simp[hd]
  have q2:vs.getD i .non=v:=by rw[dE,e1];rfl
  show Rep K M H (ds.getD i .non) (vs.getD i .non);rw[q1,q2];exact e2
end
open L2 PySem.W
open L2 PySem.W
open L2 PySem.W SeqAt
open L2 PySem.W SeqAt
section
theorem zu{r:R}{l:List D}{ns: ~~~0}{j:Nat}(ha:dB X z [e] g [r] g1)(hp:pk r g1=!(.lst l))(hi:bH l=!ns)(hl:ns.length<64)
  (hg:Gl X "sorted") (hm:X.mg "sorted"=none) (eZ:starEach [e] X.env=(false,eval e X.env)::starEach [] X.env) :
  aB X z (.Call (.Name "sorted" p) [e] [#[!"reverse",.Constant (.bool true) j kp,kpos]] pos) g (.new ((bO ns).reverse.map .int)) g1:=by
 refine aB.of λah s Y J M H Post I st k=>?_
 refine AV (gk I hg hm (by rfl:bootBuiltins ("sorted":Str)=!(.builtin "sorted")) (callWith_kw ?_ (by rw[eZ];rfl) (by rw[eZ];rfl)))
 refine ha.run I st λvs us s1 H1 bx M1 I1 r1 q1 q2 q3=>?_
 have rO:=q1.rO q3 (ds:=[.lst l]) (by unfold rO;rw[hp];rfl)
 obtain⟨v1,rfl,pv1⟩:=rO.one;obtain⟨u1,rfl,ru1⟩:=vals1 r1;refine kws_cons (Constant_bool (kws_nil ?_));obtain⟨q,xs,rfl,e1,e2⟩:=pv1.list;have:=dM e2 hi;subst this;cases ru1;obtain⟨its,rv,pl,_⟩:=I1.list (cZ.of e1);have aJ:=rv.length;rw[d6]at aJ;refine sorted_ints_rev (b:=true) pl.isList (intsAre_of rv) ⋯ λout ns' a1 a2 a3=>?_
 have e0:ns'=(bO ns).reverse:=by
  have hr:ns'.reverse.Pairwise (· <= ·):=by rw[AC];exact a3
  have:=dN ((List.reverse_perm ns').trans a2) hr;rw[<- this,Cn]
 subst e0;obtain⟨ep,he⟩:=sortedAll_at s1.heap its out;have hf:H1 (s1⁻¹+1)=none:=I1.hok.fresh (y4 _);have hlen2:(bO ns).reverse.length=ns.length:=by rw[CF];exact (aZ ns).length_eq
 refine k (.ref (s1⁻¹+1)) _ _ (upd H1 (s1⁻¹+1) (.lst ((bO ns).reverse.map V.int))) bx ((s1⁻¹+1)::M1) (I1.laid (t':=s1.toks) (o:=.lst ((bO ns).reverse.map V.int)) (λb o e=>sortedAll_old e) (y4 _) ?_) rfl (q1.aP hf) (q2.trans (aq.aP hf)) #[_,_,rfl,b0,λhA=>q1.fresh hf (q1.sub _ hA),q1.bZ hf,aE,lK _]
 refine#[by rw[d6,hlen2,sT];lia,out.toList,ep,lE a1,?_]
 rw[he]
end
open L2 PySem.W SeqAt
open L2 PySem.W SeqAt
section
theorem eL.of (h:∀(ah: ~~~1) (s:Shared) (Y:Sg) (J M:List Addr) (H:Hp) (Post:Value->Shared->Prop),L2.Inv X ah Y H s->S z g Y J M H->
  (∀v s1,(∀(R:It->Hp->Prop),(∀qqz H' aF M',S z g1 Y aF M' H'->aq M H M' H'->Jt qqz items z.K M' H'->R qqz H')->wpAny (~~~2) X.A (pyIter v) (PIE X ah Y tg R) X.xe s1)->Post v s1)->wpAny (~~~2) X.A (eval iter X.env) Post X.xe s):eL X z tg iter g items g1:=
 #[λY H R=>∃J M,S z g Y J M H/\(∀qqz H' aF M',S z g1 Y aF M' H'->aq M H M' H'->Jt qqz items z.K M' H'->R qqz H'),by rintro ah s Y H R I ⟨J,M,st,k⟩;exact h ah s Y J M H _ I st λv s1 q=>q R k,λY J M H R s k=>#[J,M,s,k]]
end
open L2 PySem.W SeqAt
section
theorem zx(hit:s.heap.IsTupleIter it t i)(ht:s.heap.IsTuple t items)(hx:items[i]?=!x)(hQ:∀h',h'.IsTupleIter it t (i+1)->Heap.SameBut it s.heap h'->Q x { s with heap:=h'}):wpAny (model prog w) A (Builtin.SmallTypes.nextOf (.ref it)) Q E s:=by obtain⟨o,ho,hc,hd⟩:=id hit;obtain⟨ol,hol,_,nl,hdl⟩:=ht;refine aS (t7 hit.typeIs y8 (o3 y8 hit.typeIs F.entry_tuple_iterator_next ?_ (F.args_tuple_iterator_next_1 _)));show wpAny _ _ (field (.ref it) 0 >>= _) _ _ s;refine aS (BN ho hd rfl ?_);refine aS (BN ho hd rfl ?_);refine aS (yY hol hdl ?_);simp only[mE,hx];refine aS (BS ho hd ⋯ (dA #[x,rfl,dA (hQ _ #[_,n4 _ ho (Obj.isFreed_of_fields (AD hd _)),(Obj.cls_mapFields ..).trans hc,?_] (v4 ..))]));rw[AD hd];simp[rawInt]
theorem rP(hh:A.handled=none)(hit:s.heap.IsTupleIter it t i)(ht:s.heap.IsTuple t items)(hx:items[i]?=none)
  (hE:∀h' e,Heap.ExtBut it s.heap h'->(∃o,h'.get? e=!o/\o.cls=.type "StopIteration")->E (.ref e) { s with heap:=h'}):wpAny (model prog w) A (Builtin.SmallTypes.nextOf (.ref it)) Q E s:=by
 obtain⟨o,ho,hc,hd⟩:=id hit;obtain⟨ol,hol,_,nl,hdl⟩:=ht;refine aS (t7 hit.typeIs y8 (o3 y8 hit.typeIs F.entry_tuple_iterator_next ?_ (F.args_tuple_iterator_next_1 _)));show wpAny _ _ (field (.ref it) 0 >>= _) _ _ s;refine aS (BN ho hd rfl ?_);refine aS (BN ho hd rfl ?_);refine aS (yY hol hdl ?_);simp only[mE,hx];refine aS (A5 (aS (BS ho hd ⋯ ?_)));refine aS ?_;refine aS (nE (aS (CH (by first |rfl | (simp only[firstArgMember];rfl)) (nE ?_ (by size_fits)))) (by size_fits))
 refine aS (wpAny_handled ?_)
 first |rw[show A.in1.handled=none from hh] |rw[hh]
 exact aS (dA (wpAny_throw (hE _ _ (((v4 ..).extBut.push _).push _) #[_,eQ _ rfl,rfl])))
theorem JT(hh:A.handled=none)(it t:Addr)(iN:t≠it)(items:Array Value):Draws prog w A it [it,t] items.size (λi v=>items[i]?=!v) (λi h=>h.IsTupleIter it t i/\h.IsTuple t items) where
 live:=λ_ _ st=>let #[o,ho,_]:=st.1;#[o,ho]
 frame:=λ_ _ _ st hk=>by
  obtain⟨⟨o,ho,r⟩,⟨o',ho',r'⟩⟩:=st;exact#[#[o,hk it ⋯ o ho,r],#[o',hk t ⋯ o' ho',r']]
 item:=λi s Q E hi st hQ=>zx st.1 st.2 (x:=items[i]) (by simp[hi]) λh' Wv hs'=>hQ _ h' s.toks (by simp[hi]) #[Wv,IsTup.extBut st.2 hs'.extBut iN] hs'
 done:=λs Q E st hE=>rP hh st.1 st.2 ⋯ hE
theorem wV(l:Addr)(items:Array Value)(n:Nat)(dct:Option Addr)(sl:Array (Option Value)) :
  Meets (Builtin.«enumerate.__new__» #[[.type "enumerate",.ref l],[]]) (λ_ R s=>s.heap.get? l=some { cls:=.type "tuple",dict:=dct,data:=.seq items n,slots:=sl}/\R (.ok (.ret (.ref (s.heap.push { cls:=.type "tuple_iterator",data:=.fields ([.ref l,.int 0 0].toArray)}).objs.size)))
    { s with heap:=(s.heap.push { cls:=.type "tuple_iterator",data:=.fields ([.ref l,.int 0 0].toArray)}).push { cls:=.type "enumerate",data:=.fields ([.none,.bool false,.ref s⁻¹,rawInt 0,.none,.none].toArray)}}):=
 .of_wp λprog w A R s h=>by
  obtain⟨hp,g,d,tk,os⟩:=s;obtain⟨hl,h⟩:=h;have hsub:=sub_enumerate;have hL:Heap.IsTuple (Shared.heap #[hp,g,d,tk,os]) l items:=#[_,hl,rfl,n,rfl]
  wp_walk using AutoSeq1.wpAny_loadPart' hl
  refine wpAny_stack_any λst=>dA ?_
  split
  . rename_i c _ _ _ _ _;cases (c==Value.type "enumerate") <;> (wp_walk using AutoSeq1.wpAny_loadPart' hl,At hL;exact#[_,rfl,h])
  .
   wp_walk using AutoSeq1.wpAny_loadPart' hl,At hL
   exact#[_,rfl,h]
theorem zy(hL:s.heap.IsTuple l items)
  (h:∀h',IsEnum h' (s⁻¹+1) s⁻¹ 0 .none->h'.IsTupleIter s⁻¹ l 0->h'.objs.size=s⁻¹+2->(∀b o,s.heap.get? b=!o->h'.get? b=!o)->Q (.ref (s⁻¹+1)) { s with heap:=h'}) :
  wpAny (model prog w) A (call (.type "enumerate") [.ref l]) Q E s:=by
 obtain⟨⟨c,dct,dt,sl⟩,hl,hc,n,hd⟩:=hL;cases (show c=.type "tuple" from hc)
 cases (show dt=.seq items n from hd)
 refine callType_new F.called_enumerate ⋯ (F.typeCall_enumerate_1 _) (F.newCall_enumerate_1 _) (λobj=>F.args_object_init_2 obj _) F.entry_enumerate_new (wV l items n dct sl) #[hl,?_]
 generalize hq:s.heap.push { cls:=.type "tuple_iterator",data:=.fields ([.ref l,.int 0 0].toArray)}=h1;have hz:h1.objs.size=s⁻¹+1:=by rw[<- hq];exact tS ..
 have hi:h1.get? s⁻¹=some { cls:=.type "tuple_iterator",data:=.fields ([.ref l,.int 0 0].toArray)}:=by rw[<- hq];exact eQ _ rfl
 have he:IsEnum (h1.push { cls:=.type "enumerate",data:=.fields ([.none,.bool false,.ref s⁻¹,rawInt 0,.none,.none].toArray)}) h1.objs.size s⁻¹ 0 .none:=eQ h1 rfl;rw[hz]at he ⊢
 exact#[#[_,he,rfl],h _ he #[_,dC _ hi,rfl,rfl] (by rw[tS,hz]) λb o x=>dC _ (by rw[<- hq];exact dC _ x)]
end
open L2 PySem.W SeqAt
section
variable{X:Cx}{ah: ~~~1}{Y:Sg}{H:Hp}{s:Shared}
theorem Inv.Ww{h':Heap}{t':Nat}{ch:List Addr}{xs:List V}{its:List Value}(I:L2.Inv X ah Y H s)(hf:∀b∈ch,lz X ah H b)(k:∀b o,b∉ch->s.heap.get? b=!o->h'.get? b=!o)(hz:xs.length<=sizeLine)(rv:Vals xs its)(ht:iz h' s⁻¹ its.toArray) :
  L2.Inv X ah Y (upd H s⁻¹ (.tup xs)) { s with heap:=h',toks:=t'}:=by
 have nH:∀b u,H b=!u->b∉ch:=λb u e z=>by rw[(hf b z).1]at e;cases e
 have fr:=I.hok.fresh (eD _);have nn:∀b u,H b=!u->b≠s⁻¹:=λb u e z=>by rw[z,fr]at e;cases e
 refine I.step (λb hb=>?_) (λb o _ _ hc e _=>k b o hc e) (λb o _ _ hc e _=>#[o.slots,k b o hc e]) (λb o _ e n=>by rw[aC (kA (fN e))];exact n) (λb o hc e=>#[o,k b o hc e]) (λb _ e=>by rw[aC (nn _ _ e)];exact e) (λb _ _ e=>by rw[aC (nn _ _ e)];exact e) (λb ps e=>#[([].toArray),by rw[aC (nn _ _ e),e];simp]) (λm hm=>?_) (λb u e=>?_) I.bare
 . obtain⟨f0,f1,f2,f3,f4,f5⟩:=hf b hb;exact#[f3,f1,f4,f5]
 . obtain⟨o,es,ep,ho,rr⟩:=hm;exact#[o,es,ep,k _ o (λz=>(hf _ z).2.1 rfl) ho,rr]
 .
  by_cases hb:b=s⁻¹
  . subst hb;rw[aE]at e;cases e;exact#[hz,its,rv,ht]
  .
   rw[aC hb]at e;refine (I.hok b u e).stay (λc w hc q=>k c w (λz=>?_) q) (λc q=>by rw[aC (nn _ _ q)];exact q) λc _ q=>by rw[aC (nn _ _ q)];exact q
   rcases hc with rfl |hc
   . exact nH _ _ e z
   . exact nH _ _ hc z
end
theorem zz{X:Cx}{ah: ~~~1}{Y:Sg}{H:Hp}{s:Shared}{u c:Addr}{us:List V}(I:L2.Inv X ah Y H s)(h:iO X.K H u us)(f:lz X ah H c):u≠c:=λz=>by
 subst z;rcases h with (h |⟨o,h⟩) |h
 . rw[f.1]at h;symm
 . rw[f.1]at h;symm
 .
  obtain⟨o,_,_,e,_⟩:=h;have e0:=I.ok.mod.kin u o e;rcases f.2.2.2.1 with q |q
  . exact I.ok.yW u o e0 q
  . exact absurd (hU (fN (I.ok.bs u o e0).1) q) (nS _)
def Ite(K:Frag)(a:Addr):It:=
 #[λi H=>∃xs x,iO K H a xs/\xs[i]?=!x,λi H x H'=>∃p y,(∀xs,iO K H a xs->xs[i]?=!y)/\H p=none/\x=.ref p/\H'=upd H p (.tup [.int (i:Int),y]),λi H=>∃xs,iO K H a xs/\xs.length=i]
theorem Fz{P:Program}{w:World}{K:Frag}{es:List Expr}{k:Nat}{pos:Pos}(e it a:Addr)(hei:e≠it):Turn P w K (.Tuple es k pos) (Ite K a) [e,it] e (λi h=>(∃old,IsEnum h e it (i:Int) old)/\h.IsTupleIter it a i) where
 mem:=by simp
 obj:=λi h st b hb=>by
  obtain⟨⟨old,he⟩,oi,e1,_,e2⟩:=st;rcases eJ.mp hb with rfl |hb
  . exact#[_,he,λv z=>nomatch (show Data.fields _=Data.cell v from z)]
  . cases fI.mp hb;exact#[oi,e1,λv z=>by rw[e2]at z;cases z]
 keep:=λi h h' st k=>by
  obtain⟨⟨old,he⟩,o,q,d⟩:=st;exact#[#[old,k e ⋯ _ he],o,k it ⋯ o q,d]
 item:=by
  intro X hP hw hK hc i ah s Y H E I hf st hg;subst hP hw hK;obtain⟨⟨old,he⟩,hi⟩:=st;obtain⟨xs,x,hq,hx⟩:=hg;obtain⟨its,rv,hat,hz⟩:=I.tuple hq;have hae:a≠e:=zz I hq (hf e ⋯);have hai:a≠it:=zz I hq (hf it ⋯);have hlt:i<its.length:=by rw[<- rv.length];exact (dS.mp hx).1
  refine wpAny_pyNext_enum_itemD (JT (A:=X.A.in1) (I.ok.hd hc) it a hai its.toArray) he #[hi,hat] hlt hei (by simp[hei,wP hae]) λu h1 tk hu hout eZ ht Ny hkp=>#[_,rfl,?_]
  refine wpAny_letOwnedTupleGo_enum hout λh2 he2 hs2=>?_
  replace hs2:Heap.SameBut e h1 h2:=hs2;obtain⟨u',e1,ru⟩:=rv.get hx;rw[List.getElem?_toArray,e1]at hu;cases hu;have hpe:=Nat.ne_of_gt (fN he);obtain⟨oi0,ei0,_⟩:=id hi;have I3:=Inv.Ww (t':=tk+1) I (h':=h2) hf (xs:=[.int (i:Int),x]) (its:=[.int (i:Int) tk,u]) (λb o hb q=>by
   simp only[eJ,nV,A9,not_or]at hb;exact (hs2.2 b hb.1).trans (hkp b o hb.1 hb.2 q)) (by rw[sT];show 2<=16777216;decide) (.cons #[tk,rfl] (.cons ru .nil)) #[_,(hs2.2 _ hpe).trans ht,#[rfl,_,rfl],rfl]
  have hfr:=I.hok.fresh (eD _);obtain⟨⟨oj,q1,q2⟩,_⟩:=eZ;refine#[.ref s⁻¹,_,I3,rfl,#[_,x,λys hy=>by rw[I.su hy hq];exact hx,hfr,rfl,rfl],#[#[u,he2],oj,(hs2.2 it (wP hei)).trans q1,q2],λb hb=>?_]
  have hbn:b≠s⁻¹:=λz=>by
   rcases eJ.mp hb with rfl |hb
   . exact hpe z.symm
   . cases fI.mp hb;exact absurd (fN ei0) (by rw[z];exact nS _)
  rw[aC hbn];exact (hf b hb).1
 done:=by
  intro X hP hw hK hc i ah s Y H E I hf st hg;subst hP hw hK;obtain⟨⟨old,he⟩,hi⟩:=st;obtain⟨xs,hq,hx⟩:=hg;obtain⟨its,rv,hat,hz⟩:=I.tuple hq;obtain⟨g0,g1,g2,g3,g4,g5⟩:=hf it ⋯;have hl:i=its.length:=by rw[<- rv.length];exact hx.symm
  subst hl;exact wpAny_pyNext_enum_endD (JT (A:=X.A.in1) (I.ok.hd hc) it a (zz I hq (hf it ⋯)) its.toArray) he #[hi,hat] λh' eb=>#[rfl,I.turned (λb o hb q=>eb b o hb q) g0 g1 g3 g4 g5]
 self:=λA i s Q E st h=>by
  obtain⟨⟨old,he⟩,_⟩:=st;exact wpAny_pyIter_enum he h
section
def mZ(l:List D):List D:=l.zipIdx.map λp=>.tup [.int (p.2:Nat),p.1]
theorem FG{l:List D}{n:Nat}{d:D}(h:(mZ l)[n]?=!d):∃x,l[n]?=!x/\d=.tup [.int n,x]:=by
 unfold mZ at h;rw[l6]at h;cases e:l.zipIdx[n]? with
 |none=>rw[e]at h;symm
 |some q=>
  rw[e]at h;symm;rw[List.getElem?_zipIdx]at e;cases e2:l[n]? with
  |none=>rw[e2]at e;cases e
  |some x=>rw[e2]at e;cases e;exact#[x,rfl,by simp]
theorem FH(l:List D):(mZ l).length=l.length:=by simp[mZ]
theorem P7{l:List D}(hK:z.K=X.K)(ha:dB X z [e] g [.dat (.tup l)] g1)(hg:Gl X "enumerate")(hm:X.mg "enumerate"=none)(eZ:starEach [e] X.env=[(false,eval e X.env)]) :
  eL X z (.Tuple es k pos) (.Call (.Name "enumerate" p) [e] [] rp) g (mZ l) g1:=by
 refine eL.of λah s Y J M H Post I stt kk=>?_
 refine Call_ (gk I hg hm boot_enumerate (o6 (ha.run I stt λvs us s1 H1 bx M1 I1 r1 q1 q2 q3=>?_) eZ rfl))
 cases q3 with
 |dat rp0 R=>
  cases R;obtain⟨u,rfl,ru⟩:=vals1 r1;cases rp0 with
  |@tup _ a xs hb rr=>
   cases ru;rw[hK]at hb;obtain⟨its,rv,pl,hz⟩:=I1.tuple hb.sq;have hsq:∀M2 H2,aq M1 H1 M2 H2->iO X.K H2 a xs:=λM2 H2 aK=>TupAt.sq (M:=M2) (hb.imp (λq=>aK.rd q.1 q.2) id)
   refine zy pl λh' he hi Ny hk=>kk _ _ λR kR=>?_
   refine wpAny_pyIter_enum he ?_;have I2:=I1.kept (t':=s1.toks) hk;refine#[_,[s1⁻¹+1,s1⁻¹],_,Ite X.K a,H1,rfl,I2,Fz _ _ a (Nat.succ_ne_self _),#[#[_,he],hi],λb hb=>?_,kR _ H1 bx M1 q1 q2 λM2 H2 aK=>?_]
   .
    rcases eJ.mp hb with rfl |hb
    . exact I1.DX (y4 _) (I1.hok.fresh (y4 _))
    . cases fI.mp hb;exact I1.DX (eD _) (I1.hok.fresh (eD _))
   .
    have Pw:=rr.stay aK;refine#[λn d hd=>?_,xs,hsq M2 H2 aK,by rw[FH];exact rr.length.symm]
    obtain⟨x,e1,rfl⟩:=FG hd;obtain⟨v,e2,e3⟩:=Pw.get e1;refine#[#[xs,v,hsq M2 H2 aK,e2],λy H' hy z' g' σ' aF hz' s'=>?_]
    obtain⟨p,y',w1,w3,rfl,rfl⟩:=hy;have w2:=w1 xs (hsq M2 H2 aK);rw[e2]at w2;cases w2;exact#[s'.laid w3,aq.laid w3,.tup (.inl #[s'.fresh w3,.inl aE]) (.cons (.int _) (.cons (e3.stay (aq.laid w3)) .nil))]
end
open L2 PySem.W SeqAt
section
theorem Wx(hc:X.calm=true)(hN:X.N.Nodup)(hi:X.N[i]?=!x)(hj:X.N[j]?=!y)(hij:i≠j)(hx:X.env.scope.names.lookup x=some .local)(hy:X.env.scope.names.lookup y=some .local)
  (ha:dB X z [a,b] g [.dat d1,.dat d2] g1) (hbi:i∉z.bor) (hbj:j∉z.bor) (hw:swappedStores [.Tuple [.Name x px,.Name y py] kt pt] (.Tuple [a,b] k2 S0) X.env=pure (![x,y])) (hs:swapsWithSole [.Tuple [.Name x px,.Name y py] kt pt] (.Tuple [a,b] k2 S0) pos.line X.env=pure false) :
  jy X z (.Assign [.Tuple [.Name x px,.Name y py] kt pt] (.Tuple [a,b] k2 S0) pos) g .nx ((g1.set i (.dat d1)).set j (.dat d2)):=by
 obtain⟨t,q,k⟩:=ha;refine#[_,Uz hc hN hi hj hij hx hy q hw hs,λY J M H E s kk=>k Y J M H _ s λvs H' aF M' s' st R=>?_]
 cases R with
 |dat r R=>
  cases R with
  |dat r' R=>cases R;obtain⟨bI,s2⟩:=s'.jK (i:=i) hbi r;obtain⟨rF,s3⟩:=s2.jK (i:=j) hbj r';exact#[_,_,rfl,kk _ rF M' H' s3 st]
end
end Ev
namespace HT
open PySem PyProof.Rows
end HT
namespace Ev
open L2
section
noncomputable abbrev m1(j:Nat)(p1 p3:Pos):Expr:=.UnaryOp .USub (.Constant (.int 1) j p1) p3
end
open L2 PySem.W SeqAt
end Ev
namespace L2
def Cg(T:List Addr)(H:Hp):Prop:=∀b,(b∈T/\H b=!(.Ht ([].toArray)))\/(b∉T/\(H b=none\/∃o xs,H b=!(.DS o (.lst xs))))
theorem FJ{P:Program}{w:World}{K:Frag}{mg mb:Str->Option Value}{CX:Ii}{k:Nat}{fa a:Addr}{fd:FuncData}{x:Str}{sp:Sp}{s₁:Shared}{vs:List Value}{ns: ~~~0}{T:List Addr}
  (KX:K.In s₁.heap) (hT:∀q∈T,(∃c,s₁.heap.TableAt c q ([].toArray))/\K.lookup q=none) (hns:s₁.heap.Ns mainGlobals mg) (hb:s₁.heap.Ns builtinsNs mb) (hbb:∀x:Str,x≠ "__name__" ->mb x=bootBuiltins x) (hlim:s₁.heap.NoLimit) (hg:s₁.gens = ([].toArray))
  (ha:s₁.heap.get? a=some { cls:=.type "list",data:=.seq vs.toArray}) (hi:IntsAre vs ns) (hl:ns.length<=sizeLine) (hr:iK k callerA)
  (F:∀base:Heap,K.In base->base.Ns mainGlobals mg->rH P w K mg base CX k fa fd [x] sp) (hbind:∀(s:Shared) (u:Value),BindsTo s fd #[[u],[]] [(x,u)])
  (Ze:∀H:Hp,Cg T H->cZ K H a (ns.map V.int)->sp [.ref a] H (λv _=>v=.bl true) λ_ _ _=>False)
  (hCX:∀H e s',CX [] H s₁ (λ_ _ _=>False) e s'->False) :
  codeAny (model P w) callerA (.call (.ref fa) #[[.ref a],[]]) (λr s'=>r=.ok (.ret (.bool true))/\OldK s₁.heap s'.heap/\s'.os=s₁.os/\AllBare s'.gens) s₁:=by
 have rv:=lE hi;have lenV:=hi.length;have aT:a∉T:=λh=>by
  obtain⟨⟨c,_,e⟩,_⟩:=hT a h;rw[ha]at e;cases e
 have core:∀H:Hp,Cg T H->cZ K H a (ns.map V.int)->oG P w H s₁.heap->(∀b,H b≠none->b=a\/b∈T)->(H a≠none->K.lookup a=none)->
   codeAny (model P w) callerA (.call (.ref fa) #[[.ref a],[]]) (λr s'=>r=.ok (.ret (.bool true))/\OldK s₁.heap s'.heap/\s'.os=s₁.os/\AllBare s'.gens) s₁:=by
  intro H hO hS hok hA hK;have Ci:∀{b:Addr}{o:Obj},s₁.heap.get? b=!o->H b=none->(uy s₁.heap H).get? b=!o:=λe n=>HF e n
  have Z8:∀{b:Addr}{o:Obj}{es:Array DictEntry}{ep:Nat},s₁.heap.get? b=!o->o.data=.dict es ep->H b=none:=λ{b o es ep} e d=>by
   cases q:H b with
   |none=>rfl
   |some u=>
    rcases hA b (by rw[q];simp)with e' |e'
    . subst e';rw[ha]at e;cases e;have d':=d;cases d'
    . obtain⟨⟨c,_,e2⟩,_⟩:=hT b e';rw[e]at e2;cases e2;have d':=d;cases d'
  have nsK:∀{b:Addr}{m:Str->Option Value},s₁.heap.Ns b m->(uy s₁.heap H).Ns b m:=λ{b m} #[o,es,ep,e,d,r]=>#[o,es,ep,Ci e (Z8 e d),d,r]
  have Tj:K.In (uy s₁.heap H):=λb o e=>Ci (KX b o e) (by
   cases q:H b with
   |none=>rfl
   |some u=>
    rcases hA b (by rw[q];simp)with e' |e'
    . subst e';rw[hK (by rw[q];simp)]at e;cases e
    .
     rw[(hT b e').2]at e;cases e)
  have hM:Mod K mg (uy s₁.heap H):=#[Tj,nsK hns,#[mb,nsK hb,hbb],let #[mc,h1,h2]:=hlim;#[mc,nsK h1,h2]]
  have e0:Og P w K mg (uy s₁.heap H) callerA [] s₁ H:=#[rfl,hM,λb o e=>N2 e,Nat.le_of_eq (DT _ _),trivial,λb hb=>absurd (show b∈([]:List Addr)from hb) ⋯,hok,.of_eq hg]
  refine codeAny_mono ((F _ Tj (nsK hns)).run callerA [] s₁ H #[[.ref a],[]] [.ref a] [.ref a] _ _ hr e0 (hbind s₁ (.ref a)) (.cons rfl .nil) (Ze H hO hS)) λr s' h=>?_
  cases r with
  |error e=>exact (hCX H e s' h).elim
  |ok fl=>
   cases fl with
   |next=>exact False.elim h
   |brk=>exact False.elim h
   |cont=>exact False.elim h
   |ret u=>
    obtain⟨v,H',os,bare,un,hok',r',q⟩:=h;have q':=q;subst q';obtain rfl:u=Value.bool true:=r';have tabs:∀b∈T,∀o,s₁.heap.get? b=!o->∃more,o={ cls:=.none,data:=.fields ([].toArray)}/\s'.heap.get? b=some { cls:=.none,data:=.fields more}:=λb hb o e=>by
     obtain⟨⟨c,_,e2⟩,_⟩:=hT b hb;rw[e]at e2;cases e2;rcases hO b with ⟨_,z⟩ |⟨z,_⟩
     . obtain⟨more,z2⟩:=un.ux b _ z;exact#[_,rfl,hok' b _ z2]
     . exact absurd hb z
    have aD:∀b,b∉T->∀o,s₁.heap.get? b=!o->s'.heap.get? b=!o:=λb hb o e=>by
     cases q:H b with
     |none=>exact un.keep b o e q (by intro z;exact absurd (show b∈([]:List Addr)from z) ⋯) ⋯
     |some u=>
      rcases hO b with ⟨z,_⟩ |⟨_,z⟩
      . exact absurd z hb
      .
       rcases z with z |⟨ob,xs,z⟩
       . rw[q]at z;cases z
       . have z2:=un.uw b ob _ z;obtain⟨e1,_⟩:=hok b _ z;obtain⟨e2,_⟩:=hok' b _ z2;rw[e]at e1;cases e1;exact e2
    refine#[rfl,#[λb o e=>?_,λb o e=>?_],os,bare]
    .
     by_cases hb:b∈T
     . obtain⟨more,rfl,e2⟩:=tabs b hb o e;obtain⟨⟨c,t⟩,_⟩:=hT b hb;exact .inr (.inl #[t.isCodeTable,rfl,([].toArray),more,rfl,by rw[e2];simp])
     . exact .inl (aD b hb o e)
    .
     by_cases hb:b∈T
     . obtain⟨more,rfl,e2⟩:=tabs b hb o e;exact#[_,e2]
     . exact#[_,aD b hb o e]
 have JV:∀b∈T,s₁.heap.get? b=some { cls:=.none,data:=.fields ([].toArray)}:=λb hb=>by
  obtain⟨⟨c,_,e2⟩,_⟩:=hT b hb;exact e2
 cases hk:K.lookup a with
 |some o=>
  have e:=KX a o hk;rw[ha]at e;cases e;refine core (λb=>if b∈T then some (.Ht ([].toArray))else none) (λb=>?_) (.inr #[_,vs.toArray,_,hk,rfl,rfl,rfl,by rw[d5,lenV];exact hl,by simpa using rv]) (λb u z=>?_) (λb z=>?_) λz=>absurd (eP aT) z
  .
   by_cases hb:b∈T
   . exact .inl #[hb,eR hb]
   . exact .inr #[hb,.inl (eP hb)]
  .
   by_cases hb:b∈T
   . have z':=(eR hb).symm.trans z;cases z';exact JV b hb
   . have z':=(eP hb).symm.trans z;cases z'
  .
   by_cases hb:b∈T
   . exact .inr hb
   . exact absurd (eP hb) z
 |none=>
  refine core (λb=>if b∈T then some (.Ht ([].toArray))else if b=a then some (.DS { cls:=.type "list",data:=.seq vs.toArray} (.lst (ns.map V.int)))else none) (λb=>?_) (.inl (.inr #[{ cls:=.type "list",data:=.seq vs.toArray},(eP aT).trans (eR rfl)])) (λb u z=>?_) (λb z=>?_) λ_=>hk
  .
   by_cases hb:b∈T
   . exact .inl #[hb,eR hb]
   .
    refine .inr #[hb,?_];by_cases hb2:b=a
    . exact .inr #[_,_,(eP hb).trans (eR hb2)]
    . exact .inl ((eP hb).trans (eP hb2))
  .
   by_cases hb:b∈T
   . have z':=(eR hb).symm.trans z;cases z';exact JV b hb
   .
    have z1:=(eP hb).symm.trans z;by_cases hb2:b=a
    . have z':=(eR hb2).symm.trans z1;cases z';subst hb2;exact#[ha,by rw[d6];exact hl,vs,_,rv,ha]
    . have z':=(eP hb2).symm.trans z1;cases z'
  .
   by_cases hb:b∈T
   . exact .inr hb
   .
    by_cases hb2:b=a
    . exact .inl hb2
    . exact absurd ((eP hb).trans (eP hb2)) z
end L2
namespace Ev
open L2
end Ev
namespace PySem
end PySem
namespace Ev
open L2
noncomputable def upIn(K:Frag)(C D:Addr):Bool:=match K.lookup C with
 |!#[_,_,.cls cd,_]=>cd.mro.contains (.ref D)
 |_=>false
section
variable{g g':G}
theorem Slots.nos'{K:Frag}(Y:Sg):Slots K M H (List.replicate Y.length .no) Y []:=by
 induction Y with
 |nil=>exact .nil
 |cons v Y ih=>exact .no ih
theorem Slots.m6{K:Frag}{i:Nat}{v:Option V}(q:Slots K M H g Y J)(e:g[i]?=some .no):Slots K M H g (Y.set i v) J:=by
 induction q generalizing i with
 |nil=>exact .nil
 |no q ih=>cases i with
  |zero=>exact .no q
  |succ i=>exact .no (ih e)
 |dat r q ih=>cases i with
  |zero=>cases e
  |succ i=>exact .dat r (ih e)
 |own a b q ih=>cases i with
  |zero=>cases e
  |succ i=>exact .own a b (ih e)
theorem S.m6(s:S z g Y J M H)(e:g[i]?=some .no):S z g (Y.set i v) J M H where
 sl:=s.sl.m6 e
 nd:=s.nd
 sub:=s.sub
 own:=λj a l e1 e2=>s.own j a l e1 (by
  rw[fR (λq=>by rw[<- q,e]at e1;cases e1)]at e2;exact e2)
 live:=s.live
 keep:=s.keep
 j8:=s.j8
 m0:=s.m0
 bm:=s.bm
 jw:=λp hp=>by
  obtain⟨h1,l,h2⟩:=s.jw p hp;exact#[by rw[fR (λq=>by rw[<- q,e]at h2;cases h2)];exact h1,l,h2]
 tab:=s.tab
 tm:=s.tm
 tt:=s.tt
end
end Ev
namespace L2
end L2
namespace Ev
open L2
structure Lt where
 params:Arguments
 body:Expr
 scope:Scope
 pos:Pos
noncomputable abbrev Lt.ex(l:Lt):Expr:=.Lambda l.params l.body l.scope l.pos
section
theorem S.JW(s:S z g Y J M H)(hm:a∈M)(hA:a∉J)(h0:z.H0 a=none)(h:H a=!(.lst xs)):S z g Y J M (upd H a (.lst xs')):=s.Iz hm hA h0 h trivial trivial
end
open L2 PySem.W
noncomputable def DS:Slot->Slot
 |.own l=>.dat (.lst l)
 |s=>s
inductive Zf(X:Cx):List Stmt->List TS->Prop
 |nil:Zf X [] []
 |cons {s:Stmt}{ss:List Stmt}{t:TS}{ts:List TS}:PS X s t->Zf X ss ts->Zf X (s::ss) (t::ts)
def Wy:List TS->TS->TS
 | [],u=>u
 |t::ts,u=>ZM t (Wy ts u)
theorem Zf.pss{X:Cx}{ss aD:List Stmt}{ts:List TS}{u:TS}(h:Zf X ss ts)(hu:vN X aD u):vN X (ss++aD) (Wy ts u):=by
 induction h with
 |nil=>exact hu
 |cons a _ ih=>exact gJ a ih
def FN(X:Cx)(z:Z)(ss:List Stmt)(g:G)(f:Fl)(g':G):Prop:=
 ∃ts,Zf X ss ts/\∀(u:TS) Y J M H (E:Ends),S z g Y J M H->pH z M H { E with nx:=u E} g' f->Wy ts u E Y H
theorem FN.bk{X:Cx}{z:Z}{ss aD:List Stmt}{g g1 g':G}{f:Fl}(h:FN X z ss g .nx g1)(h2:fz X z aD g1 f g'):fz X z (ss++aD) g f g':=by obtain⟨t2,q2,k2⟩:=h2;obtain⟨t,q,k⟩:=h;exact#[_,q.pss q2,λY J M H E s kE=>k t2 Y J M H E s λσ' aF M' H' s' st=>k2 σ' aF M' H' E s' (kE.trans st)]
theorem FN.end{X:Cx}{z:Z}{ss aD:List Stmt}{g g':G}{f:Fl}(h:FN X z ss g f g')(hn:f≠.nx):fz X z (ss++aD) g f g':=by
 obtain⟨t,q,k⟩:=h;refine#[_,q.pss eU,λY J M H E s kE=>k _ Y J M H E s ?_]
 cases f with
 |nx=>exact absurd rfl hn
 |rt r=>exact kE
 |bk=>exact kE
 |ct=>exact kE
def Wz(X:Cx)(tg iter:Expr):TI:=λY H R=>∃wi,PI X tg iter wi/\wi Y H R
theorem JX:PI X tg iter (Wz X tg iter):=λah s Y H R I h=>let #[wi,q,k]:=h;q ah s Y H R I k
section
theorem JZ(hC:∀g b g',mS g b g'->cG X z ifs g b g')(hE:∀g d g',yT g d g'->aB X z bG g (.dat d) g')(hw:eL X z tg iter g2 items Te)(ht:gU X z tg T)(bW:last∉T.ix)
  (hcp:kJ T last mS yT items Te g3) {Y:Sg}{J M:List Addr}{H:Hp}{Nn:Sg->Hp->Prop}{D:Addr} (s:S z g2 Y J M H) (hD:Y[last]?=!(!(.ref D)))
  (k:∀σ' aF M' H',S z g3 σ' aF M' H'->aq M H M' H'->σ'[last]?=!(!(.ref D))->wH T.ix Y σ'->Nn σ' H'):tIn (Wz X tg iter) (Ez X tg) (EY X ifs) (wg D (Jx X bG)) Y H Nn:=by
 obtain⟨wi,q,kw⟩:=hw;refine#[wi,q,kw Y J M H _ s λqqz H1 bx M1 s1 fP hJ=>?_]
 refine kH hJ (λl σ' H'=>∃gb Ab Mb,S z gb σ' Ab Mb H'/\aq M1 H1 Mb H'/\wH T.ix Y σ'/\σ'[last]?=!(!(.ref D))/\kJ T last mS yT l gb g3)
  #[_,_,_,s1,aq.refl _ _,wH.refl _ _,hD,hcp] (by rintro _ _ _ ⟨_,_,M2,_,aK,_⟩;exact#[M2,aK]) ?_ ?_
 . rintro σ' H' ⟨gb,Ab,Mb,s2,aK,ag,yU,cp⟩;cases cp;exact k σ' Ab Mb H' s2 (fP.trans aK) yU ag
 .
  rintro d l σ' H' ⟨gb,Ab,Mb,s2,aK,ag,yU,cp⟩ x H2 yl;obtain⟨s3,dZ,rx⟩:=yl Mb aK z gb σ' Ab rfl s2;obtain⟨t,qt,kt⟩:=ht;cases cp with
  |skip e0 hc aD=>
   refine#[t,qt,kt d gb _ e0 x _ Ab Mb H2 _ s3 rx λσ4 jO s4 ag4=>?_]
   obtain⟨t2,q2,k2⟩:=hC _ _ _ hc;refine#[t2,q2,k2 _ jO Mb H2 _ s4 λH5 BW M5 s5 ki=>?_]
   exact oY #[_,BW,M5,s5,(aK.trans dZ).trans ki,ag.trans ag4,by rw[ag4.2 _ bW];exact yU,aD]
  |take e0 hc he ha hz' aD=>
   refine#[t,qt,kt d gb _ e0 x _ Ab Mb H2 _ s3 rx λσ4 jO s4 ag4=>?_]
   obtain⟨t2,q2,k2⟩:=hC _ _ _ hc;obtain⟨t3,q3,k3⟩:=hE _ _ _ he;have PJ:σ4[last]?=!(!(V.ref D)):=by rw[ag4.2 _ bW];exact yU
   refine#[t2,q2,k2 _ jO Mb H2 _ s4 λH5 BW M5 s5 ki=>kr #[t3,q3,k3 _ BW M5 H5 _ s5 λv H6 Wn M6 s6 Ti R6=>?_]]
   obtain⟨a,xs,f1,f2,f3,f4⟩:=s6.sl.at ha;rw[PJ]at f1;injection f1 with f1;injection f1 with f1;injection f1 with f1;subst f1;obtain⟨s7,st7⟩:=s6.write ha PJ (f4.append (.cons R6 .nil));exact#[xs,f3,by rw[<- f4.length];exact hz',_,Wn,M6,s7,(((aK.trans dZ).trans ki).trans Ti).trans st7,ag.trans ag4,PJ,aD]
end
inductive iS(T:Tg)(mS:G->Bool->G->Prop)(In:G->G->Prop):List D->G->G->Prop
 |nil {g:G}:iS T mS In [] g g
 |skip:T.set d g=!g1->mS g1 false g2->iS T mS In l g2 g'->iS T mS In (d::l) g g'
 |take:T.set d g=!g1->mS g1 true g2->In g2 g3->iS T mS In l g3 g'->iS T mS In (d::l) g g'
section
def FP(X:Cx)(z:Z)(N':List Str)(scope:Scope)(tg iter bG:Expr)(ifs:List Expr)(T:Tg)(last:Nat)(g2 g3:G):Prop:=
 ∃items Te,(∀bk:Bk,eL (X.blk N' scope bk) z tg iter g2 items Te)/\kJ T last (λg b g'=>∀bk:Bk,cG (X.blk N' scope bk) z ifs g b g') (λg d g'=>∀bk:Bk,aB (X.blk N' scope bk) z bG g (.dat d) g') items Te g3
theorem m7(hw:eL X z t1 i1 g items g1)(ht1:∀b:Bk,gU (X.blk N' scope b) z t1 T1)(ht:∀b:Bk,gU (X.blk N' scope b) z tg T)(hT1:∀i∈T1.ix,g1.length<=i/\i<g1.length+k)(hT:∀i∈T.ix,g1.length<=i/\i<g1.length+k)
  (hcp:iS T1 (λg b g'=>∀bk:Bk,cG (X.blk N' scope bk) z f1 g b g') (FP X z N' scope tg iter bG ifs T (g1.length+k)) items (gC k g1) gE) (hacc:gE[g1.length+k]?=!(.own acc)) :
  ∃wi,PI X t1 i1 wi/\∀Y J M H Q,S z g Y J M H->Kn z (gE.take g1.length) Y M H (.new acc) Q->sG X k wi (λb=>Ez (X.blk N' scope b) t1) (λb=>EY (X.blk N' scope b) f1) (λD b=>tIn (Wz (X.blk N' scope b) tg iter) (Ez (X.blk N' scope b) tg) (EY (X.blk N' scope b) ifs) (wg D (Jx (X.blk N' scope b) bG))) Y H Q:=by
 obtain⟨wi,q,kw⟩:=hw;refine#[wi,q,λY J M H Q s kq=>kw Y J M H _ s λqqz H1 bx M1 s1 fP hJ D hD=>?_]
 have hl:=s1.sl.length;have hz:∀p∈z.lent,p.1<Y.length:=λp hp=>(dS.mp (s1.jw p hp).1).1
 have hT1':∀i∈T1.ix,Y.length<=i:=λi hi=>by rw[<- hl];exact (hT1 i hi).1
 have Wm:∀i∈T.ix,Y.length<=i:=λi hi=>by rw[<- hl];exact (hT i hi).1
 have J0:g1.length+k∉T1.ix:=λh=>nS _ (hT1 _ h).2
 have bW:g1.length+k∉T.ix:=λh=>nS _ (hT _ h).2
 have s1':=s1.aP (xs:=[]) hD;have h0:=s1.bZ hD;have nA:D∉bx:=λh=>s1.fresh hD (s1.sub D h)
 have sb:=s1'.extend (k:=k) b0 nA h0 aE .nil;have Jy:(Y++(List.replicate k none++[!(V.ref D)]))[g1.length+k]?=!(!(V.ref D)):=by
  rw[hl,eI (B9 _ _),sB,eI (by rw[kS];exact eD _),kS,B6]
  rfl
 refine kH hJ (λl σ' H'=>∃gb Ab Mb τ,S z gb σ' Ab Mb H'/\aq M1 H1 Mb H'/\σ'=Y++τ/\σ'[g1.length+k]?=!(!(.ref D))/\iS T1 (λg b g'=>∀bk:Bk,cG (X.blk N' scope bk) z f1 g b g') (FP X z N' scope tg iter bG ifs T (g1.length+k)) l gb gE)
  #[_,_,_,_,sb,aq.aP hD,rfl,Jy,hcp] (by rintro _ _ _ ⟨_,_,M2,_,_,aK,_⟩;exact#[M2,aK]) ?_ ?_
 . rintro σ' H' ⟨gb,Ab,Mb,τ,s2,aK,rfl,yU,cp⟩;cases cp;obtain⟨a,xs,f1,f2,f3,f4⟩:=s2.sl.at hacc;rw[yU]at f1;injection f1 with f1;injection f1 with f1;injection f1 with f1;subst f1;obtain⟨A1,s3,m3,n3⟩:=s2.shrink hz ⋯ hacc yU;rw[<- hl]at s3;exact kq _ H' A1 Mb s3 (fP.trans aK) #[D,xs,rfl,m3,n3,h0,f3,f4]
 .
  rintro d l σ' H' ⟨gb,Ab,Mb,τ,s2,aK,rfl,yU,cp⟩ x H2 yl bk _;obtain⟨s3,dZ,rx⟩:=yl Mb aK z gb (Y++τ) Ab rfl s2;obtain⟨t,qt,kt⟩:=ht1 bk;cases cp with
  |skip e0 hc aD=>
   refine#[t,qt,kt d gb _ e0 x _ Ab Mb H2 _ s3 rx λσ4 jO s4 ag=>?_]
   obtain⟨τ',rfl⟩:=cV ag hT1';obtain⟨t2,q2,k2⟩:=hc bk;refine#[t2,q2,k2 _ jO Mb H2 _ s4 λH5 BW M5 s5 ki=>?_]
   refine oY #[_,BW,M5,τ',s5,(aK.trans dZ).trans ki,rfl,?_,aD];rw[ag.2 _ J0];exact yU
  |take e0 hc hin aD=>
   obtain⟨items2,Te,hw2,NC⟩:=hin;refine#[t,qt,kt d gb _ e0 x _ Ab Mb H2 _ s3 rx λσ4 jO s4 ag=>?_]
   obtain⟨τ',rfl⟩:=cV ag hT1';obtain⟨t2,q2,k2⟩:=hc bk;have PJ:(Y++τ')[g1.length+k]?=!(!(V.ref D)):=by rw[ag.2 _ J0];exact yU
   refine#[t2,q2,k2 _ jO Mb H2 _ s4 λH5 BW M5 s5 ki=>kr ?_]
   refine JZ (λg b g' h=>h bk) (λg d g' h=>h bk) (hw2 bk) (ht bk) bW NC s5 PJ λσ6 Wn M6 H6 s6 Ti hD6 ag6=>?_
   obtain⟨τ6,rfl⟩:=cV ag6 Wm;exact#[_,Wn,M6,τ6,s6,((aK.trans dZ).trans ki).trans Ti,rfl,hD6,aD]
theorem J1(B:bJ X.env.scope scope)(hc:X.calm=true)(hN:Names X.N N' scope k)(hw:eL X z t1 i1 g items g1)(ht1:∀b:Bk,gU (X.blk N' scope b) z t1 T1)(ht:∀b:Bk,gU (X.blk N' scope b) z tg T)(hT1:∀i∈T1.ix,g1.length<=i/\i<g1.length+k)(hT:∀i∈T.ix,g1.length<=i/\i<g1.length+k)
  (hcp:iS T1 (λg b g'=>∀bk:Bk,cG (X.blk N' scope bk) z f1 g b g') (FP X z N' scope tg iter bG ifs T (g1.length+k)) items (gC k g1) gE) (hacc:gE[g1.length+k]?=!(.own acc))
  (hs:∀x,foldedSetIterable i1 X.env x=pure x) (hs2:∀(b:Bk) x,foldedSetIterable iter (X.blk N' scope b).env x=pure x):aB X z (.ListComp bG [#[t1,i1,f1,0],#[tg,iter,ifs,0]] scope pos) g (.new acc) (gE.take g1.length):=by
 obtain⟨wi,q,kk⟩:=m7 hw ht1 ht hT1 hT hcp hacc;exact#[_,Ir B hc hN q (λb=>#[#[jP,jQ],JX,jP,jQ,pM]) hs hs2,kk]
theorem J2(B:bJ X.env.scope scope)(hc:X.calm=true)(hN:Names X.N N' scope k)(hw:eL X z t1 i1 g items g1)(ht1:∀b:Bk,gU (X.blk N' scope b) z t1 T1)(ht:∀b:Bk,gU (X.blk N' scope b) z tg T)(hT1:∀i∈T1.ix,g1.length<=i/\i<g1.length+k)(hT:∀i∈T.ix,g1.length<=i/\i<g1.length+k)
  (hcp:iS T1 (λg b g'=>∀bk:Bk,cG (X.blk N' scope bk) z f1 g b g') (FP X z N' scope tg iter bG ifs T (g1.length+k)) items (gC k g1) gE) (hacc:gE[g1.length+k]?=!(.own acc))
  (Iq:X.N.Nodup) (hy:X.N[i]?=!y) (hl:X.env.scope.names.lookup y=some .local) (hb:i∉z.bor) (hi:i<(gE.take g1.length).length)
  (hsw:swapsWith (.ListComp bG [#[t1,i1,f1,0],#[tg,iter,ifs,0]] scope pos) (!(.Name y py)) gG.line X.env=pure true)
  (hs:∀x,foldedSetIterable i1 X.env x=pure x) (hs2:∀(b:Bk) x,foldedSetIterable iter (X.blk N' scope b).env x=pure x):jy X z (.Assign [.Name y py] (.ListComp bG [#[t1,i1,f1,0],#[tg,iter,ifs,0]] scope pos) gG) g .nx ((gE.take g1.length).set i (.own acc)):=by
 obtain⟨wi,q,kk⟩:=m7 hw ht1 ht hT1 hT hcp hacc;refine#[_,Iu B hc hN q (λb=>#[#[jP,jQ],JX,jP,jQ,pM]) Iq hy hl hsw hs hs2,λY J M H E s kE=>kk Y J M H _ s λv H' aF M' s' st R=>?_]
 obtain⟨a,xs,rfl,hm,hA,h0,ha,rr⟩:=R;obtain⟨bI,s2⟩:=s'.o7 hb hi hm hA h0 ha rr;exact kE _ bI M' H' s2 st
end
inductive gq(z:Z)(J M:List Addr)(H:Hp):List Addr->List (List D)->Prop
 |nil:gq z J M H [] []
 |cons {p:Addr}{as:List Addr}{xs:List V}{l:List D}{ll:List (List D)}:p∈M->p∉J->z.H0 p=none->H p=!(.lst xs)->aH z.K M H l xs->gq z J M H as ll->gq z J M H (p::as) (l::ll)
section
theorem gq.stay(h:gq z J M H as ll)(st:aq M H M' H')(k:∀p∈as,p∈M'/\H' p=H p):gq z J M' H' as ll:=by
 induction h with
 |nil=>exact .nil
 |cons h1 h2 h3 h4 h5 _ ih=>obtain⟨k1,k2⟩:=k _ b0;exact .cons k1 h2 h3 (k2.trans h4) (h5.stay st) (ih λp hp=>k p (bP _ hp))
theorem gq.mem(h:gq z J M H as ll):∀p∈as,p∈M/\p∉J/\z.H0 p=none/\∃xs,H p=!(.lst xs):=by
 induction h with
 |nil=>intro p h;symm
 |cons h1 h2 h3 h4 _ _ ih=>intro p hp;rcases eJ.mp hp with rfl |hp;exact#[h1,h2,h3,_,h4];exact ih p hp
theorem gq.get(h:gq z J M H as ll):∀{i:Nat}{l:List D},ll[i]?=!l->∃p xs,as[i]?=!p/\H p=!(.lst xs)/\aH z.K M H l xs:=by
 induction h with
 |nil=>intro i l e;cases e
 |cons h1 h2 h3 h4 h5 _ ih=>intro i l e;cases i with
  |zero=>cases (show some _=!l from e);exact#[_,_,rfl,h4,h5]
  |succ i=>exact ih e
theorem gq.push(h:gq z J M H as ll)(h1:p∈M)(h2:p∉J)(h3:z.H0 p=none)(h4:H p=!(.lst xs))(h5:aH z.K M H l xs):gq z J M H (as++[p]) (ll++[l]):=by
 induction h with
 |nil=>exact .cons h1 h2 h3 h4 h5 .nil
 |cons a b c d e _ ih=>exact .cons a b c d e ih
theorem gq.write(h:gq z J M H as ll)(nd:as.Nodup)(r:aH z.K M (upd H p (.lst xs')) l' xs')(hp:p∈M):∀{i:Nat},as[i]?=!p->gq z J M (upd H p (.lst xs')) as (ll.set i l'):=by
 induction h with
 |nil=>intro i e;cases e
 |@cons q as xs l ll h1 h2 h3 h4 h5 hr ih=>
  intro i e;obtain⟨nd1,nd2⟩:=gN.mp nd;cases i with
  |zero=>
   cases (show some q=!p from e)
   exact .cons h1 h2 h3 aE r (hr.stay (aq.write hp) λx hx=>#[(hr.mem x hx).1,aC (λe=>nd1 (e▸hx))])
  |succ i=>
   have hq:q≠p:=λe'=>nd1 (by rw[e'];exact i8 (show as[i]?=!p from e))
   exact .cons h1 h2 h3 (by rw[aC hq];exact h4) (h5.stay (aq.write hp)) (ih nd2 e)
end
def Rows(z:Z)(g:G)(iy:Nat)(M0:List Addr)(H0:Hp)(ll:List (List D))(Y:Sg)(H:Hp):Prop:=
 ∃J M a as,S z g Y J M H/\aq M0 H0 M H/\Y[iy]?=!(!(.ref a))/\a∈M/\a∉J/\z.H0 a=none/\H a=!(.lst (as.map .ref))/\a∉as/\as.Nodup/\gq z J M H as ll
theorem Rows.m6(h:Rows z g iy M0 H0 ll Y H)(e:g[i]?=some .no)(n:i≠iy):Rows z g iy M0 H0 ll (Y.set i v) H:=by obtain⟨J,M,a,as,s,st,e1,h⟩:=h;exact#[J,M,a,as,s.m6 e,st,by rw[fR n];exact e1,h]
section
variable{iy ix iw:Nat}
theorem Cj(hy:X.N[iy]?=!y)(vy:oH X.env.scope y)(dy:(y==(~~~3))=false)(cy:(y==("__classdict__":Str))=false)(hx:X.N[ix]?=!x)(vx:oH X.env.scope x)(dx:(x==(~~~3))=false)(cx:(x==("__classdict__":Str))=false)
  (hw:X.N[iw]?=!w) (vw:oH X.env.scope w) (dw:(w==(~~~3))=false) (cw:(w==("__classdict__":Str))=false) (hline:(nW.endLine==j7.line)=true) :
  ∃t,PS X (.Expr (.Call (.Attribute (.Subscript (.Name y py) (.Name x px) sp) "append" nW) [.Name w pw] [] j7) ep) t/\∀Y H M0 H0 (E:Ends) (ll:List (List D)) (l:List D) (j:Nat) (b:Int),Rows z g iy M0 H0 ll Y H->Y[ix]?=!(!(.int j))->Y[iw]?=!(!(.int b))->ll[j]?=!l->l.length<1000->
   (∀H',Rows z g iy M0 H0 (ll.set j (l++[.int b])) Y H'->E.nx Y H')->t E Y H:=by
 refine#[_,Bp (Bx AR PySem.F.slot_list_append PySem.F.type_list_append lD (S3 uD (d7 hy vy dy cy) (d7 hx vx dx cx) (λ_ _=>rfl)) (iA (d7 hw vw dw cw) lC rfl) rfl rfl hline rfl rfl) rfl,λY H M0 H0 E ll l j b h ex ew el hl kE=>?_]
 obtain⟨J,M,a,as,s,st,e1,hm,hA,h0,ha,na,nd,rl⟩:=h;obtain⟨p,xs,ep,hp,rp⟩:=rl.get el;obtain⟨q1,q2,q3,_⟩:=rl.mem p (i8 ep);have hat:fS (as.map V.ref) (j:Int)=!(.ref p):=by
  have hj:=(dS.mp ep).1;unfold L2.fS L2.rL;rw[eR ⋯,eR (by rw[d6];lia)]
  show (as.map V.ref)[j]?=!(.ref p);rw[l6,ep];rfl
 refine#[.ref a,e1,.int j,ex,a,as.map .ref,j,.ref p,rfl,rfl,cZ.of ha,hat,.inl #[rfl,xs,cZ.of hp],.int b,ew,p,xs,.int b,rfl,rfl,hp,?_,kE _ ?_]
 . rw[<- rp.length,sT];lia
 .
  have hap:a≠p:=λe=>na (e▸i8 ep)
  refine#[J,M,a,as,s.JW q1 q2 q3 hp,st.trans (aq.write q1),e1,hm,hA,h0,by rw[aC hap];exact ha,na,nd,?_]
  exact rl.write nd ((rp.stay (aq.write q1)).append (.cons (.int b) .nil)) q1 ep
end
noncomputable def wW(ll:List (List D)):D->Option (List (List D))
 |.tup [.int a,.int b]=>if 0<=a/\0<=b then match ll[a.toNat]? with
   |some l1=>if l1.length<1000 then match (ll.set a.toNat (l1++[.int b]))[b.toNat]? with
     |some l2=>if l2.length<1000 then some ((ll.set a.toNat (l1++[.int b])).set b.toNat (l2++[.int a]))else none
     |none=>none
    else none
   |none=>none
  else none
 |_=>none
noncomputable def iT:List D->List (List D)->Option (List (List D))
 | [],ll=>!ll
 |d::l,ll=>match wW ll d with |some Tp=>iT l Tp |none=>none
theorem J3(h:wW ll d=!Tp):∃(a b:Nat) (l1 l2:List D),d=.tup [.int a,.int b]/\ll[a]?=!l1/\l1.length<1000/\(ll.set a (l1++[.int b]))[b]?=!l2/\l2.length<1000/\Tp=(ll.set a (l1++[.int b])).set b (l2++[.int a]):=by
 unfold wW at h;split at h
 .
  rename_i a b;split at h
  .
   rename_i h0;obtain⟨a,rfl⟩:∃n:Nat,a=n:=#[a.toNat,by lia]
   obtain⟨b,rfl⟩:∃n:Nat,b=n:=#[b.toNat,by lia]
   split at h
   .
    rename_i l1 e1;split at h
    .
     rename_i h1;split at h
     .
      rename_i l2 e2;split at h
      . rename_i h2;symm;exact#[a,b,l1,l2,rfl,e1,h1,e2,h2,rfl]
      . symm
     . symm
    . symm
   . symm
  . symm
 . symm
theorem S.Cp:∀(ps:List Addr) {M:List Addr},S z g Y J M H->(∀p∈ps,p∉J/\z.H0 p=none)->∃M',S z g Y J M' H/\(∀m∈M',m∈M)/\∀p∈ps,p∉M'
 | [],M,s,_=>#[M,s,λ_ h=>h,λ_ h=>nomatch h]
 |p::ps,M,s,h=>by
  obtain⟨h1,h2⟩:=h p b0;obtain⟨M',s',k1,k2⟩:=S.Cp ps (s.drop h2 h1) λq hq=>h q (bP _ hq)
  refine#[M',s',λm hm=>(lL.mp (k1 m hm)).1,λq hq=>?_]
  rcases eJ.mp hq with rfl |hq
  . intro hm;have:=(lL.mp (k1 _ hm)).2;simp at this
  . exact k2 q hq
theorem gq.reps(h:gq z J M H as ll)(hM:∀m∈M',m∈M)(n:∀p∈as,p∉M'):aH z.K M' H (ll.map .lst) (as.map .ref):=by
 induction h with
 |nil=>exact .nil
 |cons _ _ _ h4 h5 _ ih=>exact .cons (.lst #[n _ b0,h4] (h5.stay (aq.less hM))) (ih λp hp=>n p (bP _ hp))
theorem Rows.trans(st:aq M0 H0 M1 H1)(h:Rows z g iy M1 H1 ll Y H):Rows z g iy M0 H0 ll Y H:=by obtain⟨J,M,a,as,s,aK,r⟩:=h;exact#[J,M,a,as,s,st.trans aK,r]
section
variable{iy ia ib it:Nat}
theorem J4(hp:PassesOwn (~~~2) X.A X.env X.xe)(hc:X.calm=true)(hK:z.K=X.K)(hy:X.N[iy]?=!y)(vy:oH X.env.scope y)(dy:(y==(~~~3))=false)(cy:(y==("__classdict__":Str))=false)
  (na:uL X a ia) (va:oH X.env.scope a) (da:(a==(~~~3))=false) (ca:(a==("__classdict__":Str))=false) (nb:uL X b ib) (vb:oH X.env.scope b) (db:(b==(~~~3))=false) (cb:(b==("__classdict__":Str))=false)
  (ht:X.N[it]?=!tn) (vt:oH X.env.scope tn) (dt:(tn==(~~~3))=false) (ct:(tn==("__classdict__":Str))=false) (hgt:g[it]?=!(.dat (.tup aj)))
  (hga:g[ia]?=some .no) (hgb:g[ib]?=some .no) (hay:ia≠iy) (hby:ib≠iy) (hab:ia≠ib) (l1:(Tq.endLine==Tr.line)=true) (l2:(Tt.endLine==NC.line)=true)
  {ll0:List (List D)} (hF:iT aj ll0=!NK) :
  ∃t,PS X (.For (.Tuple [.Name a pa,.Name b pb] tk Hs) (.Name tn tp) [.Expr (.Call (.Attribute (.Subscript (.Name y y1) (.Name a a1) sp1) "append" Tq) [.Name b b1] [] Tr) ep1,.Expr (.Call (.Attribute (.Subscript (.Name y y2) (.Name b b2) sp2) "append" Tt) [.Name a a2] [] NC) ep2] [] J5) t/\
   ∀M0 H0 Y H (E:Ends),Rows z g iy M0 H0 ll0 Y H->(∀σ' H',Rows z g iy M0 H0 NK σ' H'->E.nx σ' H')->t E Y H:=by
 obtain⟨t1,q1,k1⟩:=Cj hy vy dy cy na.ix va da ca nb.ix vb db cb l1;obtain⟨t2,q2,k2⟩:=Cj hy vy dy cy nb.ix vb db cb na.ix va da ca l2;refine#[_,Ib hp hc (Ia (d7 ht vt dt ct)) (HR hc (oJ (kh na.nd na.ix na.lc na.fn) (oJ (kh nb.nd nb.ix nb.lc nb.fn) Bq rfl) rfl) rfl rfl) (gJ q1 (N8 q2)) (λ_=>rfl),λM0 H0 Y H E h kE=>?_]
 obtain⟨J,M,ay,as,s,st,h⟩:=h;obtain⟨v,ev,rv⟩:=s.sl.sI hgt;cases rv with
 |@tup _ at' xs ha rr=>
  refine#[.ref at',ev,at',rfl,#[xs,hK▸ha.sq],?_];refine#[λi m σ' H'=>i+m=aj.length/\∃ll,Rows z g iy M H ll σ' H'/\iT (aj.drop i) ll=!NK,#[aj.length,AB _,ll0,#[J,M,ay,as,s,aq.refl _ _,h],hF],?_]
  rintro i m σ' H' ⟨him,ll,hr,hf⟩;obtain⟨bI,M2,ay2,as2,s2,aK,h2⟩:=id hr;have ha2:TupAt z.K M2 H' at' xs:=by
   rcases ha with ⟨n,hq⟩ |hq
   . exact .inl (aK.rd n hq)
   . exact .inr hq
  have Pw:=rr.stay aK;cases e:aj[i]? with
  |none=>
   have hi:i=aj.length:=by have:=A8.mp e;lia
   subst hi;rw[List.drop_length]at hf;cases hf;exact .inl #[#[xs,hK▸ha2.sq,by rw[<- rr.length];exact eD _],kE σ' H' (hr.trans st)]
  |some d=>
   rw[drop_cons e]at hf;have hi:=(dS.mp e).1;obtain⟨xd,e1,e2⟩:=Pw.get e;cases hd:wW ll d with
   |none=>
    have hf:(match wW ll d with |some Tp=>iT (aj.drop (i+1)) Tp |none=>none)=!NK:=hf
    rw[hd]at hf;cases hf
   |some Tp=>
    have hf:(match wW ll d with |some Tp=>iT (aj.drop (i+1)) Tp |none=>none)=!NK:=hf
    rw[hd]at hf;obtain⟨Zg,Zh,r1,r2,rfl,g1,g2,g3,g4,rfl⟩:=J3 hd;cases e2 with
    |@tup _ ad ys had rad=>
     cases rad with
     |cons ra rad=>cases rad with
      |cons rb rad=>
       cases rad;cases ra;cases rb;refine .inr #[#[xs,.ref ad,hK▸ha2.sq,e1],λEm En=>∃ll,Rows z g iy M H ll Em En/\iT (aj.drop (i+1)) ll=!NK,λEm En hN=>#[m - 1,(ar1 him hi).1,(ar1 him hi).2,hN],λx H2 hx=>?_]
       obtain⟨rfl,hy'⟩:=hx;have:=hy' xs (hK▸ha2.sq);rw[e1]at this;cases this;refine#[ad,_,rfl,hK▸had.sq,rfl,_,_,rfl,_,_,rfl,rfl,?_];have aJ:=s2.sl.length.symm;have ila:ia<σ'.length:=by rw[aJ];exact (dS.mp hga).1
       have ilb:ib<σ'.length:=by rw[aJ];exact (dS.mp hgb).1
       have hr2:=(hr.m6 (v:=!(.int Zg)) hga hay).m6 (v:=!(.int Zh)) hgb hby
       have va':((σ'.set ia (!(V.int Zg))).set ib (!(V.int Zh)))[ia]?=!(!(.int Zg)):=by rw[fR (wP hab),gL ila]
       have vb':((σ'.set ia (!(V.int Zg))).set ib (!(V.int Zh)))[ib]?=!(!(.int Zh)):=by rw[gL (by rw[l8];exact ilb)]
       exact k1 _ _ M H _ ll r1 Zg Zh hr2 va' vb' g1 g2 λH3 hr3=>k2 _ _ M H _ _ r2 Zh Zg hr3 vb' va' g3 g4 λH4 hr4=>#[_,hr4,hf]
end
section
theorem S.extNo(s:S z g Y J M H)(τ:Sg):S z (g++List.replicate τ.length .no) (Y++τ) J M H:=by
 have hl:=s.sl.length;have q:=s.sl.append (Slots.nos' τ);rw[n0]at q;refine#[q,s.nd,s.sub,λi b l e1 e2=>?_,s.live,s.keep,s.j8,s.m0,s.bm,λp hp=>?_,s.tab,s.tm,s.tt]
 .
  rcases u4 i g.length with hi |hi
  . rw[dL hi]at e1;rw[dL ⋯]at e2;exact s.own i b l e1 e2
  . rw[eI hi]at e1;have:=i8 e1;rw[w9]at this;cases this.2
 . obtain⟨q1,l',q2⟩:=s.jw p hp;exact#[by rw[dL (dS.mp q1).1];exact q1,l',by rw[dL (dS.mp q2).1];exact q2]
theorem Slots.nosA{K:Frag}:∀{n:Nat}{τ:Sg}{A:List Addr},Slots K M H (List.replicate n .no) τ A->A=[]
 | 0,_,_,q=>by cases q;rfl
 |n+1,_,_,q=>by
  cases q with
  |no q=>exact Slots.nosA q
theorem S.cutNo{τ:Sg}{n:Nat}(s:S z (g++List.replicate n .no) (Y++τ) J M H)(hl:g.length=Y.length)(hz:∀p∈z.lent,p.1<Y.length):S z g Y J M H:=by
 obtain⟨σ1,σ2,A1,A2,h1,h2,h3,h4⟩:=s.sl.split;obtain⟨rfl,rfl⟩:=List.append_inj h1 (hl.symm.trans h3.length);have:=Slots.nosA h4;subst this;rw[n0]at h2;subst h2;refine#[h3,s.nd,s.sub,λi b l e1 e2=>?_,s.live,s.keep,s.j8,s.m0,s.bm,λp hp=>?_,s.tab,s.tm,s.tt]
 . have hi:=(dS.mp e1).1;exact s.own i b l (by rw[dL hi];exact e1) (by rw[dL ⋯];exact e2)
 . obtain⟨c1,l',c2⟩:=s.jw p hp;have pL:=hz p hp;rw[dL pL]at c1;rw[dL ⋯]at c2;exact#[c1,l',c2]
end
section
variable{iy im:Nat}
theorem FQ(hj:j<k)(hN:Names X.N N' scope k)(B:bJ X.env.scope scope)(hc:X.calm=true)(hx:∀b:Bk,uL (X.blk N' scope b) x (X.N.length+j))(hgr:Gl X "range")(hmr:X.mg "range"=none)
  (Tv:g.length=X.N.length) (hm:X.N[im]?=!mn) (vm:oH X.env.scope mn) (dm:(mn==(~~~3))=false) (cm:(mn==("__classdict__":Str))=false) (hgm:g[im]?=!‹m›) (hm1:m<=1000)
  (Iq:X.N.Nodup) (hy:X.N[iy]?=!y) (hl:X.env.scope.names.lookup y=some .local) (hgy:g[iy]?=some .no)
  (hsw:swapsWith (.ListComp (.List [] lp) [#[.Name x px,.Call (.Name "range" rp) [.Name mn mp] [] Zi,[],0]] scope WD) (!(.Name y py)) ap.line X.env=pure true) :
  ∃t,PS X (.Assign [.Name y py] (.ListComp (.List [] lp) [#[.Name x px,.Call (.Name "range" rp) [.Name mn mp] [] Zi,[],0]] scope WD) ap) t/\∀Y J M H (E:Ends),S z g Y J M H->(∀σ' H',Rows z g iy M H (List.replicate m []) σ' H'->E.nx σ' H')->t E Y H:=by
 refine#[_,By B hc hN (sy hgr hmr (iA (d7 hm vm dm cm) lC rfl)) (λb=>#[kh (hx b).nd (hx b).ix (hx b).lc (hx b).fn,wc,Ih lC]) Iq hy hl hsw (λ_=>rfl),λY J M H E s kE=>?_]
 obtain⟨v,ev,rv⟩:=s.sl.sI hgm;cases rv;refine#[.int m,ev,(m:Int),rfl,by lia,by lia,λD hD=>?_]
 have aJ:=s.sl.length;have h0D:=s.bZ hD;have s1:=s.aP (xs:=[]) hD;refine#[λi n σ' H'=>i+n=m/\∃Mb as w,S z (g++List.replicate (k+1) .no) σ' J Mb H'/\aq M H Mb H'/\w.length=k/\σ'=Y++(w++[!(.ref D)])/\D∈Mb/\H' D=!(.lst (as.map .ref))/\D∉as/\as.Nodup/\as.length=i/\gq z J Mb H' as (List.replicate i []),#[m,AB _,D::M,[],List.replicate k none,?_,aq.aP hD,kS,rfl,b0,aE,(λh=>nomatch h),qS,rfl,.nil],?_]
 . have:=s1.extNo (List.replicate k none++[!(.ref D)]);rw[fA,kS]at this;exact this
 .
  rintro i n σ' H' ⟨hin,Mb,as,w,s2,aK,hw,rfl,hDm,hDH,hDn,nd,hal,rl⟩;have nDA:D∉J:=λh=>s.fresh hD (s.sub D h)
  by_cases hi:i<m
  .
   refine .inr #[hi,λσ' H'=>∃Mb as w,S z (g++List.replicate (k+1) .no) σ' J Mb H'/\aq M H Mb H'/\w.length=k/\σ'=Y++(w++[!(.ref D)])/\D∈Mb/\H' D=!(.lst (as.map .ref))/\D∉as/\as.Nodup/\as.length=i+1/\gq z J Mb H' as (List.replicate (i+1) []),λEm En hN=>#[n - 1,(ar1 hin hi).1,(ar1 hin hi).2,hN],λx' H2 hx' bk _=>?_]
   obtain⟨rfl,rfl⟩:=hx';have es:(Y++(w++[!(V.ref D)])).set (X.N.length+j) (!(.int (0+(i:Int))))=Y++(w.set j (!(.int (0+(i:Int))))++[!(V.ref D)]):=by rw[<- Tv,aJ,AE _ _ (B9 _ _),sB,Co _ _ ⋯]
   have s3:S z (g++List.replicate (k+1) .no) (Y++(w.set j (!(.int (0+(i:Int))))++[!(V.ref D)])) J Mb H2:=by rw[<- es];exact s2.m6 (by rw[<- Tv,eI (B9 _ _),List.getElem?_replicate,eR ⋯])
   unfold vX S4;dsimp only;rw[eR rfl];rw[es];refine#[o4 _,λp hp=>?_]
   have pD:p≠D:=λe=>by rw[e,hDH]at hp;cases hp
   have pas:∀q∈as,q≠p:=λq hq e=>by
    obtain⟨_,_,_,xs,hx⟩:=rl.mem q hq;rw[e,hp]at hx;cases hx
   have hD1:upd H2 p (.lst []) D=!(.lst (as.map .ref)):=by rw[aC (wP pD)];exact hDH
   have s4:=s3.aP (xs:=[]) hp;have s5:=s4.JW (xs':=as.map .ref++[.ref p]) (bP _ hDm) nDA h0D hD1;have dZ:aq Mb H2 (p::Mb) (upd H2 p (.lst [])):=aq.aP hp;have vO:aq (p::Mb) (upd H2 p (.lst [])) (p::Mb) (upd (upd H2 p (.lst [])) D (.lst (as.map .ref++[.ref p]))):=aq.write (bP _ hDm);refine#[as.map .ref,hD1,?_,p::Mb,as++[p],_,s5,(aK.trans dZ).trans vO,by rw[l8];exact hw,rfl,bP _ hDm,?_,?_,?_,?_,?_]
   . rw[d6,sT];lia
   . rw[aE,pV];rfl
   .
    intro h;rcases o5.mp h with h |h
    . exact hDn h
    . exact pD (fI.mp h).symm
   .
    refine oT.mpr #[nd,gN.mpr #[by simp,qS],λq hq r hr e=>?_]
    rw[fI.mp hr]at e;exact pas q hq e
   . rw[fA,hal];rfl
   .
    have r1:=rl.stay (dZ.trans vO) λq hq=>#[bP _ (rl.mem q hq).1,by rw[aC (show q≠D from λe=>hDn (by rw[<- e];exact hq)),aC (pas q hq)]]
    rw[show List.replicate (i+1) ([]:List Ev.D)=List.replicate i []++[[]]from List.replicate_succ']
    exact r1.push b0 (λh=>s2.fresh hp (s2.sub p h)) (s2.bZ hp) (by rw[aC pD];exact aE) .nil
  .
   have hi':i=m:=by lia
   subst hi';refine .inl #[eD _,?_];have s3:=s2.cutNo aJ λp hp=>(dS.mp (s.jw p hp).1).1
   have hly:iy<Y.length:=by rw[<- aJ];exact (dS.mp hgy).1
   exact kE _ _ #[J,Mb,D,as,s3.m6 hgy,aK,gL hly,hDm,nDA,h0D,hDH,hDn,nd,rl]
end
section
variable{iy im ia ib it:Nat}
theorem zA(hp:PassesOwn (~~~2) X.A X.env X.xe)(hK:z.K=X.K)(hj:j<k)(hN:Names X.N N' scope k)(B:bJ X.env.scope scope)(hc:X.calm=true)(hx:∀b:Bk,uL (X.blk N' scope b) x (X.N.length+j))(hgr:Gl X "range")(hmr:X.mg "range"=none)
  (hm:X.N[im]?=!mn) (vm:oH X.env.scope mn) (dm:(mn==(~~~3))=false) (cm:(mn==("__classdict__":Str))=false) (hgm:g[im]?=!‹m›) (hm1:m<=1000)
  (Iq:X.N.Nodup) (hy:X.N[iy]?=!y) (hl:X.env.scope.names.lookup y=some .local) (dy:(y==(~~~3))=false) (cy:(y==("__classdict__":Str))=false) (hgy:g[iy]?=some .no)
  (hsw:swapsWith (.ListComp (.List [] lp) [#[.Name x px,.Call (.Name "range" rp) [.Name mn mp] [] Zi,[],0]] scope WD) (!(.Name y py)) ap.line X.env=pure true)
  (na:uL X a ia) (va:oH X.env.scope a) (da:(a==(~~~3))=false) (ca:(a==("__classdict__":Str))=false) (nb:uL X b ib) (vb:oH X.env.scope b) (db:(b==(~~~3))=false) (cb:(b==("__classdict__":Str))=false)
  (ht:X.N[it]?=!tn) (vt:oH X.env.scope tn) (dt:(tn==(~~~3))=false) (ct:(tn==("__classdict__":Str))=false) (hgt:g[it]?=!(.dat (.tup aj)))
  (hga:g[ia]?=some .no) (hgb:g[ib]?=some .no) (hay:ia≠iy) (hby:ib≠iy) (hab:ia≠ib) (l1:(Tq.endLine==Tr.line)=true) (l2:(Tt.endLine==NC.line)=true) (hF:iT aj (List.replicate m [])=!NK) :
  FN X z [.Assign [.Name y py] (.ListComp (.List [] lp) [#[.Name x px,.Call (.Name "range" rp) [.Name mn mp] [] Zi,[],0]] scope WD) ap,.For (.Tuple [.Name a pa,.Name b pb] tk Hs) (.Name tn tp) [.Expr (.Call (.Attribute (.Subscript (.Name y y1) (.Name a a1) sp1) "append" Tq) [.Name b b1] [] Tr) ep1,.Expr (.Call (.Attribute (.Subscript (.Name y y2) (.Name b b2) sp2) "append" Tt) [.Name a a2] [] NC) ep2] [] J5,.Return (!(.Name y yr)) rpos] g (.rt (.dat (.lst (NK.map .lst)))) g:=by
 have vy:oH X.env.scope y:=.inl hl;by_cases Tv:g.length=X.N.length
 .
  obtain⟨t1,q1,k1⟩:=FQ hj hN B hc hx hgr hmr Tv hm vm dm cm hgm hm1 Iq hy hl hgy hsw;have q3:PS X (.Return (!(.Name y yr)) rpos) _:=HQ (d7 hy vy dy cy);have fin:∀M H (E:Ends) σ' H',pH z M H E g (.rt (.dat (.lst (NK.map .lst))))->Rows z g iy M H NK σ' H'->ZF iy σ' H' E.rt:=λM H E σ' H' kE h=>by
   obtain⟨J,M2,ay,as,s,st,e1,hm,hA,h0,ha,nay,nd,rl⟩:=h;obtain⟨M3,s3,k3,k4⟩:=S.Cp (ay::as) s λp hp=>by
    rcases eJ.mp hp with rfl |hp
    . exact#[hA,h0]
    . exact#[(rl.mem p hp).2.1,(rl.mem p hp).2.2.1]
   exact#[.ref ay,e1,kE _ σ' J M3 H' s3 (st.trans (aq.less k3)) (.lst #[k4 _ b0,ha] (rl.reps k3 λp hp=>k4 p (bP _ hp)))]
  have mid:∃t,PS X (.For (.Tuple [.Name a pa,.Name b pb] tk Hs) (.Name tn tp) [.Expr (.Call (.Attribute (.Subscript (.Name y y1) (.Name a a1) sp1) "append" Tq) [.Name b b1] [] Tr) ep1,.Expr (.Call (.Attribute (.Subscript (.Name y y2) (.Name b b2) sp2) "append" Tt) [.Name a a2] [] NC) ep2] [] J5) t/\
   ∀M0 H0 Y H (E:Ends),Rows z g iy M0 H0 (List.replicate m []) Y H->(∀σ' H',Rows z g iy M0 H0 NK σ' H'->E.nx σ' H')->t E Y H:=J4 hp hc hK hy vy dy cy na va da ca nb vb db cb ht vt dt ct hgt hga hgb hay hby hab l1 l2 hF
  obtain⟨t2,q2,k2⟩:=mid;refine#[[t1,t2,_],.cons q1 (.cons q2 (.cons q3 .nil)),λu Y J M H E s kE=>?_]
  exact k1 Y J M H _ s λσ' H' h'=>k2 M H σ' H' _ h' λσ2 H2 h2=>fin M H _ σ2 H2 kE h2
 .
  have no:∀st:Stmt,PS X st (λ_ Y _=>Y.length≠X.N.length):=λst ah s Y H D I h=>absurd I.len h
  exact#[[_,_,_],.cons (no _) (.cons (no _) (.cons (no _) .nil)),λu Y J M H E s kE=>λe=>Tv (s.sl.length.trans e)]
end
end Ev
namespace HT
open PySem PyProof.Rows
end HT
namespace Ev
open L2
section
variable{z:Z}{g:G}{Y:Sg}{J M:List Addr}{H:Hp}
noncomputable def gD(k:Nat)(g:G):G:=g++List.replicate (k+1) .no
theorem wX{K:Frag}:∀τ:Sg,Slots K M H (List.replicate τ.length .no) τ []
 | []=>.nil
 |_::τ=>.no (wX τ)
theorem S.wide(s:S z g Y J M H)(τ:Sg):S z (g++List.replicate τ.length .no) (Y++τ) J M H:=by
 have q:=s.sl.append (wX τ);rw[n0]at q;have hl:=s.sl.length;refine#[q,s.nd,s.sub,λi b l e1 e2=>?_,s.live,s.keep,s.j8,s.m0,s.bm,λp hp=>?_,s.tab,s.tm,s.tt]
 .
  rcases u4 i g.length with hi |hi
  . rw[dL hi]at e1;rw[dL ⋯]at e2;exact s.own i b l e1 e2
  . rw[eI hi]at e1;have:=i8 e1;rw[w9]at this;exact absurd this.2 ⋯
 . obtain⟨q1,l,q2⟩:=s.jw p hp;exact#[by rw[dL (dS.mp q1).1];exact q1,l,by rw[dL (dS.mp q2).1];exact q2]
theorem S.narrow(s:S z gb (Y++τ) J M H)(hz:∀p∈z.lent,p.1<Y.length):∃A1,S z (gb.take Y.length) Y A1 M H/\∀a∈A1,a∈J:=by
 have hl:=s.sl.length;rw[fA]at hl;have q:=s.sl;rw[<- AY Y.length gb]at q;obtain⟨σ1,σ2,A1,A2,h1,h2,h3,h4⟩:=q.split;have l1:=h3.length;rw[t9,CD ⋯]at l1;obtain⟨rfl,rfl⟩:=List.append_inj h1 l1;subst h2;have tk:∀(j:Nat) (o:Slot),(gb.take Y.length)[j]?=!o->gb[j]?=!o/\j<Y.length:=λj o e=>by
  have hj:=(dS.mp e).1;rw[t9]at hj;have hj':=hU hj (Nat.min_le_left _ _);rw[tI hj']at e;exact#[e,hj']
 refine#[A1,#[h3,(oT.mp s.nd).1,λb hb=>s.sub b (oD _ hb),λj b l c1 c2=>?_,s.live,s.keep,s.j8,s.m0,s.bm,λp hp=>?_,s.tab,s.tm,s.tt],λa ha=>oD _ ha]
 . obtain⟨c3,c4⟩:=tk j _ c1;exact s.own j b l c3 (by rw[dL c4];exact c2)
 . obtain⟨c1,l,c2⟩:=s.jw p hp;have pL:=hz p hp;rw[dL pL]at c1;exact#[c1,l,by rw[tI pL];exact c2]
end
section
variable{X:Cx}{z:Z}
theorem zB:eF X (.type "int") (λxs H Q=>∃b,xs=[.bl b]/\Q (.int (if b=true then 1 else 0)) H):=by intro ah s Y H xs us Q I r h;obtain⟨b,rfl,q⟩:=h;obtain⟨u,rfl,rx⟩:=vals1 r;cases rx;exact call_int_bool #[.int _,H,I.tok _,#[_,rfl],q]
theorem WK:CallD X z (.type "int") [.bl b] (.dat (.int (if b=true then 1 else 0))):=by
 refine#[_,zB,λg Y J M H vs Q s p k=>?_]
 obtain⟨v,rfl,p1⟩:=p.one;exact#[b,by rw[p1.bl],k _ H J M s (aq.refl _ _) (.int _)]
end
open L2 PySem.W SeqAt
open L2 PySem.W SeqAt
open L2 PySem.W SeqAt
open L2 PySem.W
section
variable{prog:Program}{w:World}{A:Around}{R:Result->Shared->Prop}{I S:Addr}{fp wr:List Addr}{n:Nat}{P:Nat->Value->Prop}{St:Nat->Heap->Prop}{h0:Heap}{bt:Nat->Nat->Bool}{kw:List (Str×Value)}
abbrev Hw(h h':Heap):Prop:=∀b o,h.get? b=!o->h'.get? b=!o
def Cq(prog:Program)(w:World)(A:Around)(h0:Heap)(P:Nat->Value->Prop)(bt:Nat->Nat->Bool):Prop:=
 ∀i j u v (s:Shared) (Q E:Value->Shared->Prop),Hw h0 s.heap->P i u->P j v->Q (.bool (bt i j)) s->wpAny (model prog w) A (richCompare .Lt u v) Q E s
theorem zC(W:Walks prog w A.in1 I fp wr n P St)(hc:Cq prog w A.in1 h0 P bt)(hS:S∉fp)(hw:∀b o,h0.get? b=!o->b∉wr/\b≠S):∀(k j:Nat) (s:Shared) (v:Value) (c:Nat),n - (j+1)=k->j+1<=n->St (j+1) s.heap->P (argBest bt j) v->Hw h0 s.heap->
   s.heap.get? S=some { cls:=.type "list",dict:=none,data:=.seq ([v,v].toArray) c,slots:=([].toArray)}->(∀u h tk,P (argBest bt (n - 1)) u->Hw h0 h->R (.ok (.ret u)) { s with heap:=h,toks:=tk})->
   codeAny (model prog w) A (.builtin "min.loop" #[[.ref I,.none,.ref S],kw]) R s:=by
 have hSw:S∉wr:=λz=>hS (W.sub _ z)
 have nm:(toString "min" ++ toString ".loop":String) = "min.loop" :=by decide
 intro k
 induction k with
 |zero=>
  intro j s v c hk hj st hp old oS fin;obtain rfl:n=j+1:=by lia
  refine AZ Cc ?_;refine aS (yY oS rfl ?_);refine aS (BU (W.done s _ _ st λh tk kp=>?_))
  refine aS (BE (kp S _ hSw oS) rfl (aS (wpAny_letGo (dA ?_))));exact fin v _ tk hp λb o e=>(mM _ _ (wP (hw b o e).2)).trans (kp b o (hw b o e).1 (old b o e))
 |succ k ih=>
  intro j s v c hk hj st hp old oS fin;have hlt:j+1<n:=by lia
  refine AZ Cc ?_;refine aS (yY oS rfl ?_);refine aS (BU (W.item (j+1) s _ _ hlt st λu h tk hu aK kp=>?_))
  have Zj:=kp S _ hSw oS;have WL:Hw h0 h:=λb o e=>kp b o (hw b o e).1 (old b o e)
  show wpAny _ _ (tryCatch (holding [u,u] (richCompare .Lt u v >>= _)) _ >>= _) _ _ _;refine aS (BU (l7 (aS (hc (j+1) (argBest bt j) u v _ _ _ WL hu hp ?_))));refine aS (l7 (oQ ?_));refine aS (wpAny_letGo (dA ?_));cases hb:bt (j+1) (argBest bt j)with
  |true=>
   refine aS (BE Zj rfl (aS (wpAny_letGo ?_)));refine dA #[A6 Bi _,ih (j+1) _ u _ ⋯ hlt (W.frame _ _ _ aK λb hb o e=>?_) (by simp only[argBest,hb];exact hu) (λb o e=>?_) (n4 _ Zj rfl) fin]
   . exact (mM _ _ (λz:S=b=>hS (z▸hb))).trans e
   . exact (mM _ _ (wP (hw b o e).2)).trans (WL b o e)
  |false=>refine aS (wpAny_letGo ?_);exact dA #[A6 Bi _,ih (j+1) _ v c ⋯ hlt aK (by simp only[argBest,hb];exact hp) WL Zj fin]
theorem wY(W:Walks prog w A.in1 I fp wr n P St)(hc:Cq prog w A.in1 h0 P bt)(hS:S∉fp)(hw:∀b o,h0.get? b=!o->b∉wr/\b≠S)(hn:0<n)(st:St 0 s.heap)(old:Hw h0 s.heap)
  (oS:s.heap.get? S=some { cls:=.type "list",dict:=none,data:=.seq ([].toArray) c,slots:=([].toArray)}) (fin:∀u h tk,P (argBest bt (n - 1)) u->Hw h0 h->R (.ok (.ret u)) { s with heap:=h,toks:=tk}) :
   codeAny (model prog w) A (.builtin "min.loop" #[[.ref I,.none,.ref S],kw]) R s:=by
 have hSw:S∉wr:=λz=>hS (W.sub _ z)
 have nm:(toString "min" ++ toString ".loop":String) = "min.loop" :=by decide
 refine AZ Cc ?_;refine aS (yY oS rfl ?_);refine aS (BU (W.item 0 s _ _ hn st λu h tk hu aK kp=>?_))
 have Zj:=kp S _ hSw oS;show wpAny _ _ (updateSeq S (λ_=>([u,u].toArray)) >>= _) _ _ _
 refine aS (BE Zj rfl ?_);refine dA #[A6 Bi _,zC W hc hS hw _ 0 _ u _ rfl hn (W.frame _ _ _ aK λb hb o e=>?_) hu (λb o e=>?_) (n4 _ Zj rfl) fin]
 . exact (mM _ _ (λz:S=b=>hS (z▸hb))).trans e
 . exact (mM _ _ (wP (hw b o e).2)).trans (kp b o (hw b o e).1 (old b o e))
theorem m8{x:Value}{kw:List (Str×Value)}(hkw:kw=[]\/∃d,kw=[(Str.ofString "default",d)]){E Q:Value->Shared->Prop}{s:Shared}
  (h:wpAny (model prog w) A.in1 (Builtin.min #[[x],kw]) (λfin s'=>match fin with
   |.done f=>(match Except.ok f with |.ok (.ret v)=>Q v s' |.ok _=>False |.error e=>E e s')
   |.again c'=>c'.quiet=true/\codeAny (model prog w) A c' (λr s'=>match r with |.ok (.ret v)=>Q v s' |.ok _=>False |.error e=>E e s') s') E s) :
  wpAny (model prog w) A (call (.builtin "min") [x] kw) Q E s:=by
 refine wpAny_call (codeAny_call_builtin F.plain_min F.entry_min ?_);unfold checkBuiltinCall;rw[F.kind_min];rcases hkw with rfl |⟨d,rfl⟩
 . exact CH (a:=()) rfl h
 . exact CH (a:=()) rfl h
theorem pW{x:Value}{kw:List (Str×Value)}(hkw:kw=[]\/∃d,kw=[(Str.ofString "default",d)]){Q E:Value->Shared->Prop}{s:Shared}
  (h:wpAny (model prog w) A.in1 (pyIter x) (λit t=>∃I fp wr n P St bt,it=.ref I/\Walks prog w A.in1 I fp wr n P St/\St 0 t.heap/\(∀b∈fp,b<t⁻¹)/\0<n/\Cq prog w A.in1 s.heap P bt/\Hw s.heap t.heap/\(∀b o,s.heap.get? b=!o->b∉wr)/\
   ∀v h' tk,P (argBest bt (n - 1)) v->Hw s.heap h'->Q v { t with heap:=h',toks:=tk}) E s) :
  wpAny (model prog w) A (call (.builtin "min") [x] kw) Q E s:=by
 have nm:(toString "min" ++ toString ".loop":String) = "min.loop" :=by decide
 refine m8 hkw ?_;have bp:∃o:Option Value,Builtin.Builtins.bindParams "min" ["key", "default"] 0 #[[],kw]=pure [none,o]/\o.toList.map (λd=>(Str.ofString "default",d))=kw:=by
  rcases hkw with rfl |⟨d,rfl⟩
  . exact#[none,rfl,rfl]
  . exact#[!d,rfl,rfl]
 obtain⟨o,e1,e2⟩:=bp;refine aS (CH e1 ?_);refine aS (dA ?_);refine aS (mI h (λit t z=>?_) λ_ _ e=>e)
 obtain⟨I,fp,wr,n,P,St,bt,rfl,W,st,hf,hn,hc,old,hw,fin⟩:=z;refine aS (nE ?_);have hS:t⁻¹∉fp:=λz=>nS _ (hf _ z)
 rw[e2];exact dA #[A6 Bi _,wY W hc hS (λb o e=>#[hw b o e,kA (fN (old b o e))]) hn (W.frame _ _ _ st λb _ o e=>dC _ e) (λb o e=>dC _ (old b o e)) (eQ _ rfl) fin]
end
open L2 PySem.W
section
variable{α:Type} [DecidableEq α] (O:iu α)
noncomputable def kK:List α->List α->Bool
 | [],[]=>false
 | [],_::_=>true
 |_::_,[]=>false
 |a::l,b::m=>if a=b then kK l m else O.lt a b
theorem pX:∀a:List α,kK O a a=false
 | []=>rfl
 |a::l=>by
  unfold kK;rw[eR rfl,pX l]
theorem Cr:∀a b c:List α,kK O a b=true->kK O b c=true->kK O a c=true
 | [],[],_,h,_=>by symm
 | [],_::_,[],_,h=>by symm
 | [],_::_,_::_,_,_=>rfl
 |_::_,[],_,h,_=>by symm
 |_::_,_::_,[],_,h=>by symm
 |x::a,y::b,z::c,h,k=>by
  unfold kK at h k ⊢
  by_cases e:x=y
  .
   subst e;rw[eR rfl]at h;by_cases e2:x=z
   .
    rw[eR e2]at k ⊢
    exact Cr a b c h k
   .
    rw[eP e2]at k ⊢
    exact k
  .
   rw[eP e]at h;by_cases e2:y=z
   . subst e2;rw[eP e];exact h
   .
    rw[eP e2]at k;have hx:=O.tr x y z h k;rw[eP (λe3=>by rw[e3,O.irr]at hx;cases hx)]
    exact hx
theorem wZ:∀a b:List α,kK O a b=false->kK O b a=false->a=b
 | [],[],_,_=>rfl
 | [],_::_,h,_=>by symm
 |_::_,[],_,h=>by symm
 |x::a,y::b,h,k=>by
  unfold kK at h k;by_cases e:x=y
  . subst e;rw[eR rfl]at h k;rw[wZ a b h k]
  . rw[eP e]at h;rw[eP (wP e)]at k;exact absurd (O.tot x y h k) e
def linG:iu (List α):=#[kK O,pX O,Cr O,wZ O]
end
def uP:iu (~~~5):=linG dD
def FT(A:Around)(s:Shared)(x y:Value)(b:Bool):Prop:=
 ∀(prog:Program) (w:World) (E:Value->Shared->Prop) (Q:Value->Shared->Prop),Q (.bool b) s->wpAny (model prog w) A (richCompare .Lt x y) Q E s
inductive Cv(A:Around)(s:Shared):List Value->List Value->Bool->Prop
 |nn:Cv A s [] [] false
 |nc:Cv A s [] (y::ws) true
 |cn:Cv A s (x::vs) [] false
 |eq:SeqAt.EqAt A s x y true->Cv A s vs ws b->Cv A s (x::vs) (y::ws) b
 |ne:SeqAt.EqAt A s x y false->FT A s x y b->Cv A s (x::vs) (y::ws) b
section
open PySem.SeqAt
open PySem.AutoSeq1 (wpAny_loadPart')
open PySem.MeetsSeq PySem.MeetsSeq2 PySem.MeetsSeq3
theorem zD(l b:Addr)(items items2:Array Value)(n n2:Nat)(dd dd2:Option Addr)(sl sl2:Array (Option Value))(c:Bool) :
  Meets (Builtin.«tuple.__lt__» #[[.ref l,.ref b],[]])
   (λA R s=>s.heap.get? l=some { cls:=.type "tuple",dict:=dd,data:=.seq items n,slots:=sl}/\s.heap.get? b=some { cls:=.type "tuple",dict:=dd2,data:=.seq items2 n2,slots:=sl2}/\
    Cv A.in1 s items.toList items2.toList c/\R (.ok (.ret (.bool c))) s):=
 .of_wp λprog w A R s h=>by
  obtain⟨hp,g,d,tk,os⟩:=s;obtain⟨hl,hb,hw,h⟩:=h;have f2:=AutoSeq1.sub_tuple_tuple
  wp_walk using wpAny_loadPart' hl,wpAny_loadPart' hb,Ap _ (λaD b s'=>b.1=none/\s'=#[hp,g,d,tk,os]/\∃(vs ws:List Value),aD=vs.zip ws/\
   Cv A.in1 #[hp,g,d,tk,os] vs ws c/\vs.length+items2.size=ws.length+items.size/\R (.ok (.ret (.bool c))) #[hp,g,d,tk,os]) _
  case turn=>
   rintro⟨y,x⟩ aD b s' ⟨hb',rfl,vs,ws,hz,hlt,aJ,hR⟩;cases hlt with
   |nn=>rw[List.zip_nil_left]at hz;cases hz
   |nc=>rw[List.zip_nil_left]at hz;cases hz
   |cn=>rw[List.zip_nil_right]at hz;cases hz
   |eq he ht=>
    rw[w8]at hz;injection hz with hyx hrest;injection hyx with hy hx;subst hy hx;simp only[hV]at aJ;refine aS (he prog w _ _ ?_)
    wp_walk
    exact#[rfl,rfl,_,_,hrest,ht,by lia,hR]
   |ne he ht=>
    rw[w8]at hz;injection hz with hyx hrest;injection hyx with hy hx;subst hy hx;refine aS (he prog w _ _ ?_);have hri:=λE Q h=>ht prog w E Q h
    wp_walk using hri
    exact#[_,rfl,by simpa using hR]
  case fin=>
   rintro⟨b1,b2⟩ s' ⟨hb',rfl,vs,ws,hz,hlt,aJ,hR⟩;simp only at hb';subst hb';have hv:c=decide (items.size<items2.size):=by
    cases hlt with
    |nn=>simp only[wS]at aJ;exact (mN ⋯).symm
    |nc=>simp only[wS,hV]at aJ;exact (i5 ⋯).symm
    |cn=>simp only[wS,hV]at aJ;exact (mN ⋯).symm
    |eq _ _=>rw[w8]at hz;cases hz
    |ne _ _=>rw[w8]at hz;cases hz
   rw[hv]at hR
   wp_walk
   exact#[_,rfl,by simpa [Builtin.Tuple.tupleCompareSizes]using hR]
  case h=>exact#[rfl,rfl,items.toList,items2.toList,rfl,hw,by simp;lia,h]
end
section
variable{A:Around}{s:Shared}
theorem n9(hl:IsTup s.heap l items)(hb:IsTup s.heap b items2)(hw:Cv A.in1 s items.toList items2.toList c)(hu:A.units<cLine):FT A s (.ref l) (.ref b) c:=λprog w E Q h=>by
 obtain⟨⟨cls,dd,data,sl⟩,ho,hc,n,hd⟩:=id hl;obtain⟨⟨U9,dd2,data2,sl2⟩,ho2,hc2,n2,hd2⟩:=id hb;simp only at hc hd hc2 hd2;subst hc hd hc2 hd2;exact richCompare_meets_room (op:=.Lt) #[_,ho,rfl] #[_,ho2,rfl] PySem.F.slot_tuple_lt PySem.F.entry_tuple_lt (PySem.F.args_tuple_lt_2 _ _) (zD l b items items2 n n2 dd dd2 sl sl2 c)
  #[ho,ho2,hw,show Value.bool c≠Value.notImplemented/\Q (.bool c) s from#[(λx=>nomatch x),h]] hu
end
theorem Dv.keep(k:Hw h h')(q:Dv h d u):Dv h' d u:=by
 refine Dv.rec (motive_1:=λd u _=>Dv h' d u) (motive_2:=λl us _=>jx h' l us) ?_ ?_ ?_ ?_ ?_ ?_ ?_ q
 . exact λb=>.bl b
 . exact λi t=>.int i t
 . exact λx t=>.str x t
 . exact λx _ ih=>.tup (x.keeps k) ih
 . exact λx _ ih=>.lst (let #[o,e,r]:=x;#[o,k _ _ e,r]) ih
 . exact .nil
 . exact λ_ _ a b=>.cons a b
theorem uQ:∀a b:List Int,bY (a.map .int) (b.map .int)=decide (a=b)
 | [],[]=>rfl
 | [],_::_=>rfl
 |_::_,[]=>rfl
 |x::a,y::b=>by
  simp only[List.map_cons,bY,cS,uQ a b,A3,CI];rfl
theorem xg:∀a b:List (~~~0),bY (a.map λx=>.tup (x.map .int)) (b.map λx=>.tup (x.map .int))=decide (a=b)
 | [],[]=>rfl
 | [],_::_=>rfl
 |_::_,[]=>rfl
 |x::a,y::b=>by
  simp only[List.map_cons,bY,cS,xg a b,uQ,A3,CI]
theorem xh(l: ~~~0):deps (l.map .int)=0:=by
 induction l with
 |nil=>rfl
 |cons a l ih=>simp[deps,dep,ih]
theorem J6(l: ~~~5):deps (l.map λx=>.tup (x.map .int))<=1:=by
 induction l with
 |nil=>exact o4 _
 |cons a l ih=>simp only[List.map_cons,deps,dep,xh];lia
theorem xm(l: ~~~0):cO (l.map .int)=true:=by
 induction l with
 |nil=>rfl
 |cons a l ih=>simp[cO,gH,ih]
theorem J7(l: ~~~5):cO (l.map λx=>.tup (x.map .int))=true:=by
 induction l with
 |nil=>rfl
 |cons a l ih=>simp only[List.map_cons,cO,gH,xm,ih];rfl
noncomputable def P8: ~~~5->D
 | [m]::ts=>.tup [.int m,.tup (ts.map λx=>.tup (x.map .int))]
 |_=>.non
def P9:D->Option (~~~5)
 |.tup [.int m,.tup l]=>(match gW l with |some ts=>!([m]::ts) |none=>none)
 |_=>none
def pY:List D->Option (List (~~~5))
 | []=>![]
 |d::l=>(match P9 d with |some k=>(match pY l with |some ks=>!(k::ks) |none=>none) |none=>none)
theorem uR:∀{l:List D}{ur: ~~~5},gW l=!ur->l=ur.map λns=>.tup (ns.map .int)
 | [],_,e=>by cases e;rfl
 |d::l,ur,e=>by
  cases d with
  |tup m=>
   unfold gW at e;split at e
   . rename_i n ns ur e1 e2;cases e;rw[List.map_cons,<- uR e2,P6 e1]
   . cases e
  |_=>cases e
theorem Qa(e:P9 d=!k):∃m ts,k=[m]::ts/\d=P8 k:=by
 unfold P9 at e;split at e
 .
  rename_i m l;split at e
  . rename_i ts e1;cases e;refine#[m,ts,rfl,?_];rw[uR e1];rfl
  . cases e
 . cases e
theorem xq:∀{l:List D}{ks:List (~~~5)},pY l=!ks->l=ks.map P8/\∀k∈ks,∃m ts,k=[m]::ts
 | [],_,e=>by cases e;exact#[rfl,λ_ z=>nomatch z]
 |d::l,ks,e=>by
  unfold pY at e;split at e
  .
   rename_i k e1;split at e
   . rename_i ks e2;cases e;obtain⟨h1,h2⟩:=xq e2;obtain⟨m,ts,h3,h4⟩:=Qa e1;exact#[by rw[List.map_cons,<- h1,<- h4],λk hk=>(eJ.mp hk).elim (λz=>#[m,ts,by rw[z];exact h3]) (h2 k)]
   . cases e
  . cases e
theorem jx.ints:∀{ns: ~~~0}{us:List Value},jx h (ns.map .int) us->IntsAre us ns
 | [],us,q=>by cases q;exact .nil
 |n::ns,us,q=>by
  cases q with
  |cons a b=>cases a;exact .cons _ _ b.ints
section
variable{A:Around}{s:Shared}
theorem Cw:∀{ts ss: ~~~5}{us ws:List Value},jx s.heap (ts.map λx=>.tup (x.map .int)) us->jx s.heap (ss.map λx=>.tup (x.map .int)) ws->A.units+1<cLine->Cv A s us ws (kK dD ts ss)
 | [],[],_,_,q,q',_=>by cases q;cases q';exact .nn
 | [],_::_,_,_,q,q',_=>by cases q;cases q';exact .nc
 |_::_,[],_,_,q,q',_=>by cases q;cases q';exact .cn
 |t::ts,x::ss,_,_,q,q',hu=>by
  cases q with
  |cons a b=>
   cases q' with
   |cons a' b'=>
    have he:=(pB (A:=A) 1 (by simp only[dep,xh];lia) a a' hu).1
    have e1:cS (.tup (t.map .int)) (.tup (x.map .int))=decide (t=x):=uQ t x;rw[e1]at he;unfold kK;by_cases e:t=x
    . rw[i5 e]at he;rw[eR e];exact .eq he (Cw b b' hu)
    .
     rw[mN e]at he;rw[eP e];cases a with
     |tup i1 v1=>
      cases a' with
      |tup i2 v2=>exact .ne he λprog w E Q h=>HT.oV i1 i2 v1.ints v2.ints ⋯ h
theorem Qc(x:Dv s.heap (.tup (ts.map λx=>.tup (x.map .int))) p)(y:Dv s.heap (.tup (ss.map λx=>.tup (x.map .int))) q)(hu:A.units+2<cLine):Cv A s [.int m t1,p] [.int n t2,q] (uP.lt ([m]::ts) ([n]::ss)):=by
 obtain⟨e,he,hi⟩:=HT.oR A s m t1 n t2;show Cv A s _ _ (if [m]=[n]then kK dD ts ss else HT.lexLt [m] [n])
 cases e with
 |true=>
  have hmn:m=n:=hi.mp rfl;rw[eR (by rw[hmn])]
  refine .eq he ?_;have h2:=(pB (A:=A) 2 (by have:=J6 ts;simp only[dep];lia) x y hu).1
  have e1:cS (.tup (ts.map λx=>.tup (x.map .int))) (.tup (ss.map λx=>.tup (x.map .int)))=decide (ts=ss):=xg ts ss
  rw[e1]at h2;by_cases e3:ts=ss
  . rw[i5 e3]at h2;rw[e3,pX];exact .eq h2 .nn
  .
   rw[mN e3]at h2;cases x with
   |tup i1 v1=>
    cases y with
    |tup i2 v2=>exact .ne h2 (n9 i1 i2 (Cw (A:=A.in1) v1 v2 (by rw[in1_units];lia)) ⋯)
 |false=>
  have hmn:m≠n:=λz=>t6 (hi.mpr z)
  rw[eP (by simpa using hmn)]
  refine .ne he λprog w E Q h=>HT.oU A s m t1 n t2 prog w E Q ?_
  rw[HT.cU,eP hmn]at h;exact h
theorem WM(h1:∃m ts,k1=[m]::ts)(h2:∃m ts,k2=[m]::ts)(x:Dv s.heap (P8 k1) u1)(y:Dv s.heap (P8 k2) u2)(hu:A.units+3<cLine):FT A s u1 u2 (uP.lt k1 k2):=by
 obtain⟨m,ts,rfl⟩:=h1;obtain⟨n,ss,rfl⟩:=h2;cases x with
 |tup i1 v1=>
  cases y with
  |tup i2 v2=>
   cases v1 with
   |cons a b=>
    cases b with
    |cons b c=>
     cases c;cases a;cases v2 with
     |cons a' b'=>
      cases b' with
      |cons b' c'=>cases c';cases a';exact n9 i1 i2 (Qc (A:=A.in1) b b' (by rw[in1_units];lia)) ⋯
end
open L2 PySem.W
noncomputable def fD{α:Type}(O:iu α)(n:α):List α->α
 | []=>n
 |m::l=>fD O (if O.lt m n then m else n) l
section
variable{α:Type}(O:iu α)(d0:α)
theorem sW:∀(l:List α) (n m:α),fD O n (l++[m])=if O.lt m (fD O n l)then m else fD O n l
 | [],_,_=>rfl
 |_::l,_,m=>sW l _ m
abbrev ltAt(L:List α)(i j:Nat):Bool:=O.lt (L.getD i d0) (L.getD j d0)
theorem sX(n:α)(l:List α):∀k,k<=l.length->argBest (ltAt O d0 (n::l)) k<=k/\(n::l).getD (argBest (ltAt O d0 (n::l)) k) d0=fD O n (l.take k)
 | 0,_=>#[eD _,rfl]
 |k+1,hk=>by
  obtain⟨h0,h1⟩:=sX n l k (Nat.le_of_succ_le hk);have hlt:k<l.length:=hk;have e:(n::l).getD (k+1) d0=l[k]:=by simp[hlt]
  have e2:l.take (k+1)=l.take k++[l[k]]:=List.take_succ_eq_append_getElem hlt;rw[e2,sW,<- h1,<- e];show (if ltAt O d0 (n::l) (k+1) (argBest (ltAt O d0 (n::l)) k)then k+1 else argBest (ltAt O d0 (n::l)) k)<=k+1/\(n::l).getD (if ltAt O d0 (n::l) (k+1) (argBest (ltAt O d0 (n::l)) k)then k+1 else argBest (ltAt O d0 (n::l)) k) d0=_
  unfold ltAt;split
  . exact#[eD _,rfl]
  . exact#[Nat.le_succ_of_le h0,rfl]
end
theorem uS{κ:Type}{un:κ->D}:∀{l:List κ},(∀k∈l,gH (un k)=true)->cO (l.map un)=true
 | [],_=>rfl
 |k::l,h=>by
  show (gH (un k)&&cO (l.map un))=true;rw[h k b0,uS λx hx=>h x (bP _ hx)]
  rfl
section
variable{X:Cx}{z:Z}{κ:Type}{O:iu κ}{d0:κ}{un:κ->D}{good:κ->Prop}
theorem J8{kw:List (Str×Value)}(hkw:kw=[]\/∃d,kw=[(Str.ofString "default",d)])(hc:X.calm=true)(jE:∀k,good k->gH (un k)=true)(hlt:∀(s:Shared) k1 k2 u1 u2,good k1->good k2->Dv s.heap (un k1) u1->Dv s.heap (un k2) u2->FT X.A.in1 s u1 u2 (O.lt k1 k2))
  {ah: ~~~1}{Y:Sg}{H:Hp}{s:Shared}{Q:VK} (I:L2.Inv X ah Y H s) {p:Addr}{ys:List V}{M:List Addr}{n:κ}{l:List κ} (hp:cZ X.K H p ys\/iO X.K H p ys) (ht:aH X.K M H ((n::l).map un) ys) (hg:∀k∈n::l,good k)
  (q:∀i,i<ys.length->(n::l).getD i d0=fD O n l->Q (ys.getD i .non) H):wpAny (~~~2) X.A (call (.builtin "min") [.ref p] kw) (EP X ah Y Q) X.xe s:=by
 have hh:X.A.in1.handled=none:=I.ok.hd hc;have hys:ys.length=l.length+1:=by rw[<- ht.length,d6,hV]
 have cmp:∀its:List Value,Vals ys its->Cq X.prog X.w X.A.in1 s.heap (λi v=>its.toArray[i]?=!v) (ltAt O d0 (n::l)):=λits rv=>by
  intro i j u v s' Q E old hi hj hQ;have t:=aH.dv I ht rv (uS λk hk=>jE k (hg k hk))
  have hi:its[i]?=!u:=by simpa using hi
  have hj:its[j]?=!v:=by simpa using hj
  obtain⟨d1,e1,v1⟩:=t.get hi;obtain⟨d2,e2,v2⟩:=t.get hj;rw[l6]at e1 e2;obtain⟨k1,f1,rfl⟩:=u8.mp e1;obtain⟨k2,f2,rfl⟩:=u8.mp e2;have g1:(n::l).getD i d0=k1:=by rw[dE,f1];rfl
  have g2:(n::l).getD j d0=k2:=by rw[dE,f2];rfl
  have hQ:Q (.bool (O.lt k1 k2)) s':=by rw[<- g1,<- g2];exact hQ
  exact hlt s' k1 k2 u v (hg k1 (i8 f1)) (hg k2 (i8 f2)) (v1.keep old) (v2.keep old) X.prog X.w E Q hQ
 have fin:∀(its:List Value) (v:Value) (h':Heap) (tk:Nat),Vals ys its->its.toArray[argBest (ltAt O d0 (n::l)) (its.toArray.size - 1)]?=!v->Hw s.heap h'->EP X ah Y Q v { s with heap:=h',toks:=tk}:=λits v h' tk rv hv hk=>by
  have hl:its.length=l.length+1:=by rw[<- rv.length,hys]
  obtain⟨b1,b2⟩:=sX O d0 n l l.length (eD _);rw[List.take_length]at b2;rw[d5,hl,Nat.add_sub_cancel]at hv;have hv:its[argBest (ltAt O d0 (n::l)) l.length]?=!v:=by simpa using hv
  have hy:argBest (ltAt O d0 (n::l)) l.length<ys.length:=by lia
  have rel:=sU rv hy;rw[dE (l:=its),hv]at rel;exact#[_,H,I.kept hk,rel,q _ hy b2]
 have pos:∀its:List Value,Vals ys its->0<its.toArray.size:=λits rv=>by rw[d5,<- rv.length,hys];exact AO _
 have ow:∀(b:Addr) (o:Obj),s.heap.get? b=!o->b∉[s⁻¹]:=λb o e hm=>by
  have:b=s⁻¹:=by simpa using hm
  exact absurd (fN e) (by rw[this];exact nS _)
 have fpl:∀{hlt:p<s⁻¹}{o:Obj},∀b∈[s⁻¹,p],b<(s.heap.push o).objs.size:=λ{hlt o} b hb=>by
  rw[tS];simp only[eJ,nV,A9]at hb;rcases hb with rfl |rfl
  . exact oI _
  . exact AK hlt
 rcases hp with hp |hp
 .
  obtain⟨its,rv,pl,hz⟩:=I.list hp;have hlt:p<s⁻¹:=by obtain⟨_,e,_⟩:=pl.isList;exact fN e
  refine pW hkw (AI pl.isList ?_);exact#[s⁻¹,_,_,_,_,_,_,rfl,Walks.list (A:=X.A.in1) hh s⁻¹ p (kA hlt) its.toArray,#[#[_,eQ _ rfl,rfl,rfl],pl.isList.push _],fpl (hlt:=hlt),pos its rv,cmp its rv,λb o e=>dC _ e,ow,λv h' tk hP hk=>fin its v h' tk rv hP hk]
 .
  obtain⟨its,rv,pl,hz⟩:=I.tuple hp;have hlt:p<s⁻¹:=by obtain⟨_,e,_⟩:=pl;exact fN e
  have Ft:s.heap.IsTuple p its.toArray:=pl;refine pW hkw (At Ft ?_);exact#[s⁻¹,_,_,_,_,_,_,rfl,Walks.tuple (A:=X.A.in1) hh s⁻¹ p (kA hlt) its.toArray,#[#[_,eQ _ rfl,rfl,rfl],IsTup.keeps Ft λb o e=>dC _ e],fpl (hlt:=hlt),pos its rv,cmp its rv,λb o e=>dC _ e,ow,λv h' tk hP hk=>fin its v h' tk rv hP hk]
theorem FW(hc:X.calm=true)(jE:∀k,good k->gH (un k)=true)(hlt:∀(s:Shared) k1 k2 u1 u2,good k1->good k2->Dv s.heap (un k1) u1->Dv s.heap (un k2) u2->FT X.A.in1 s u1 u2 (O.lt k1 k2)) :
  eF X (.builtin "min") (λxs H Q=>∃(p:Addr) (ys:List V) (M:List Addr) (n:κ) (l:List κ),xs=[.ref p]/\(cZ X.K H p ys\/iO X.K H p ys)/\aH X.K M H ((n::l).map un) ys/\(∀k∈n::l,good k)/\
   ∀i,i<ys.length->(n::l).getD i d0=fD O n l->Q (ys.getD i .non) H):=by
 intro ah s Y H xs us Q I r h;obtain⟨p,ys,M,n,l,rfl,hp,ht,hg,q⟩:=h;obtain⟨u,rfl,rx⟩:=vals1 r;cases rx;exact J8 (.inl rfl) hc jE hlt I hp ht hg q
theorem Qd(hc:X.calm=true)(jE:∀k,good k->gH (un k)=true)(hlt:∀(s:Shared) k1 k2 u1 u2,good k1->good k2->Dv s.heap (un k1) u1->Dv s.heap (un k2) u2->FT X.A.in1 s u1 u2 (O.lt k1 k2))(hK:z.K=X.K)(h:dJ d=!((n::ns).map un))(hg:∀k∈n::ns,good k) :
  CallD X z (.builtin "min") [d] (.dat (un (fD O n ns))):=by
 refine#[_,FW (d0:=n) hc jE hlt,λg Y J M H vs Q s p k=>?_]
 obtain⟨v,rfl,pv⟩:=p.one;have main:∀(a:Addr) (xs:List V),aH z.K M H ((n::ns).map un) xs->(cZ X.K H a xs\/iO X.K H a xs)->∃(p:Addr) (ys:List V) (M:List Addr) (m:κ) (l:List κ),[V.ref a]=[.ref p]/\(cZ X.K H p ys\/iO X.K H p ys)/\aH X.K M H ((m::l).map un) ys/\(∀k∈m::l,good k)/\∀i,i<ys.length->(m::l).getD i n=fD O m l->Q (ys.getD i .non) H:=λa xs rr hq=>by
  refine#[a,xs,M,n,ns,rfl,hq,hK▸rr,hg,λi hl e=>?_]
  have hd:i<(n::ns).length:=by have:=rr.length;rw[d6]at this;lia
  obtain⟨v,e1,e2⟩:=rr.get (i:=i) (d:=un (fD O n ns)) (by
   rw[l6,eA hd,<- e,dE,eA hd];rfl)
  have q2:xs.getD i .non=v:=by rw[dE,e1];rfl
  rw[q2];exact k _ _ J M s (aq.refl _ _) e2
 cases d with
 |lst m=>symm;obtain⟨a,xs,rfl,e1,e2⟩:=pv.list;exact main a xs e2 (.inl (cZ.of e1))
 |tup m=>symm;obtain⟨a,xs,rfl,e1,e2⟩:=pv.tup;exact main a xs e2 (.inr (hK▸e1.sq))
 |fix m=>symm;obtain⟨a,xs,rfl,e1,e2⟩:=pv.fix;exact main a xs e2 (.inl (hK▸e1.sq))
 |_=>symm
def Qe(h:Heap)(u:Value):Prop:=∃(a:Addr) (o:Obj) (i:Int) (t:Tok) (r:List Value) (n:Nat),u=.ref a/\h.get? a=!o/\o.cls=.type "tuple" /\o.data=.seq (Value.int i t::r).toArray n
theorem lP:∀{vs:List Value},(∀v∈vs,Qe h v)->∃fs:List Value,KatTups h vs fs/\fs.length=vs.length/\∀v∈fs,∃i t,v=.int i t
 | [],_=>#[[],.nil,rfl,λ_ z=>nomatch z]
 |v::vs,hv=>by
  obtain⟨fs,q1,q2,q3⟩:=lP λx hx=>hv x (bP _ hx)
  obtain⟨a,o,i,t,r,n,rfl,e1,e2,e3⟩:=hv v b0;exact#[_::fs,KatTups.cons e1 e2 e3 rfl q1,by rw[hV,hV,q2],λv hv=>(eJ.mp hv).elim (λz=>#[_,_,z]) (q3 v)]
theorem uT(jE:∀k,good k->gH (un k)=true)(hf:∀(h:Heap) k u,good k->Dv h (un k) u->Qe h u)
  (hlt:∀(s:Shared) k1 k2 u1 u2 (C:Bool->Shared->Prop),good k1->good k2->Dv s.heap (un k1) u1->Dv s.heap (un k2) u2->C (O.lt k1 k2) s->wpAny (~~~2) X.A.in1.in1 (keyLt' (tuples' true) u1 u2) C (λ_ _=>False) s) :
  eF X (.builtin "sorted") (λxs H Q=>∃(p:Addr) (ys:List V) (M:List Addr) (l:List κ),xs=[.ref p]/\cZ X.K H p ys/\aH X.K M H (l.map un) ys/\(∀k∈l,good k)/\l.length<64/\
  ∀q (o:List Nat),H q=none->(∀i∈o,i<ys.length)->o.map (λi=>l.getD i d0)=aN O l->Q (.ref q) (upd H q (.lst (o.map λi=>ys.getD i .non)))):=by
 intro ah s Y H xs us Q I r h;obtain⟨p,ys,M,l,rfl,hq,ht,hg,hl,q⟩:=h;obtain⟨u,rfl,rx⟩:=vals1 r;cases rx;have hyl:ys.length=l.length:=by rw[<- ht.length,d6]
 obtain⟨its,r',pl,hz⟩:=I.list hq;have aJ:=r'.length;have dv:=aH.dv I ht r' (uS λk hk=>jE k (hg k hk))
 have at_:∀{h:Heap}{i:Nat},Hw s.heap h->i<its.length->good (l.getD i d0)/\Dv h (un (l.getD i d0)) (its.getD i Value.none):=λ{h i} hk hi=>by
  obtain⟨d1,e1,v1⟩:=dv.get (eA hi);rw[l6]at e1;obtain⟨k1,f1,rfl⟩:=u8.mp e1;have g1:l.getD i d0=k1:=by rw[dE,f1];rfl
  have g2:its.getD i Value.none=its[i]:=by rw[dE,eA hi];rfl
  rw[g1,g2];exact#[hg k1 (i8 f1),v1.keep hk]
 have hz:its.length<=sizeLine:=by rw[sT];lia
 have done:∀o:List Nat,o.Perm (List.range its.length)->o.map (λi=>l.getD i d0)=aN O l->EP X ah Y Q (.ref (s⁻¹+1)) { s with heap:=sortedAll s.heap its (o.map λi=>its.getD i Value.none).toArray}:=λo ho hs=>by
  obtain⟨ep,he⟩:=sortedAll_at s.heap its (o.map λi=>its.getD i Value.none).toArray
  have hin:∀i∈o,i<ys.length:=λi hi=>by rw[aJ];exact lS.mp (ho.mem_iff.mp hi)
  have hol:o.length=ys.length:=by rw[ho.length_eq,AL,aJ]
  refine#[.ref (s⁻¹+1),_,I.laid (t':=s.toks) (o:=.lst (o.map λi=>ys.getD i .non)) (λb ob e=>sortedAll_old e) (y4 _) ?_,rfl,q _ o (I.hok.fresh (y4 _)) hin hs]
  exact#[by rw[d6,sT];lia,_,ep,sV r' hin,he]
 refine Fw pl.isList hz ?_;have hil:its.length=l.length:=by lia
 by_cases h2:its.length<2
 .
  refine wQ (uO _ _) h2 #[rfl,?_];have:=done (List.range its.length) (t0 _) (by
   rw[hil,bK]
   match l,hil with
   | [],_=>rfl
   | [x],_=>rfl
   |_::_::_,hl2=>rw[hl2,hV,hV]at h2;lia)
  rw[bK]at this;exact this
 .
  have keep:Hw s.heap (dO { s with heap:=JQ s.heap its} (s⁻¹+1) its).heap:=λb o e=>mW (wR (vs:=its) e).2 (wR e).1
  refine wO (κ:=tuples' true) (O:=O) (key:=λi=>l.getD i d0) (uO _ _) ⋯ ⋯ (λQ' hq=>?_) (λi j C hi hj hC=>?_) λp hp hr=>#[rfl,?_]
  .
   obtain⟨fs,q1,q2,q3⟩:=lP (h:=(dO { s with heap:=JQ s.heap its} (s⁻¹+1) its).heap) (vs:=its) λv hv=>by
    obtain⟨i,hi,rfl⟩:=v6 hv;obtain⟨g1,g2⟩:=at_ keep hi;have g3:its.getD i Value.none=its[i]:=by rw[dE,eA hi];rfl
    rw[g3]at g2;exact hf _ _ _ g1 g2
   exact kat_kind (T:=.type "int") q1 ⋯ (λv hv=>by obtain⟨i,t,rfl⟩:=q3 v hv;exact sS) ⋯ hq
  . obtain⟨g1,v1⟩:=at_ keep hi;obtain⟨g2,v2⟩:=at_ keep hj;exact hlt _ _ _ _ _ C g1 g2 v1 v2 hC
  . rw[hil]at hp hr;exact done p.toList (by rw[hil];exact (y7.mp hp).trans ⋯) (mY hp hr)
theorem zE{l:List κ}(jE:∀k,good k->gH (un k)=true)(hf:∀(h:Heap) k u,good k->Dv h (un k) u->Qe h u)
  (hlt:∀(s:Shared) k1 k2 u1 u2 (C:Bool->Shared->Prop),good k1->good k2->Dv s.heap (un k1) u1->Dv s.heap (un k2) u2->C (O.lt k1 k2) s->wpAny (~~~2) X.A.in1.in1 (keyLt' (tuples' true) u1 u2) C (λ_ _=>False) s)
  (d0:κ) (hK:z.K=X.K) (hg:∀k∈l,good k) (hl:l.length<64):CallD X z (.builtin "sorted") [.lst (l.map un)] (.new ((aN O l).map un)):=by
 refine#[_,uT (d0:=d0) jE hf hlt,λg Y J M H vs Q s p k=>?_]
 obtain⟨v,rfl,pv⟩:=p.one;obtain⟨a,xs,rfl,e1,rr⟩:=pv.list;have aJ:xs.length=l.length:=by rw[<- rr.length,d6]
 refine#[a,xs,M,l,rfl,cZ.of e1,hK▸rr,hg,hl,λq o hf hin hs=>?_]
 have e:(aN O l).map un=o.map λi=>(l.map un).getD i .non:=by
  rw[<- hs,List.map_map];refine i7 λi hi=>?_
  have:i<l.length:=by rw[<- aJ];exact hin i hi
  simp[this]
 have rr':=(rr.pick hin).stay (aq.aP (o:=.lst (o.map λi=>xs.getD i .non)) hf)
 refine k _ _ J (q::M) (s.aP hf) (aq.aP hf) #[q,_,rfl,b0,λhA=>s.fresh hf (s.sub q hA),s.bZ hf,aE,?_]
 rw[e];exact rr'
end
def isK(k: ~~~5):Prop:=∃m ts,k=[m]::ts
theorem Qf(k: ~~~5)(h:isK k):gH (P8 k)=true:=by
 obtain⟨m,ts,rfl⟩:=h;show cO [.int m,.tup (ts.map λx=>.tup (x.map .int))]=true
 simp only[cO,gH,J7];rfl
section
variable{X:Cx}{z:Z}
theorem Qg(hc:X.calm=true)(hu:X.A.units+6<cLine)(hK:z.K=X.K)(h:dJ d=!l)(hi:pY l=!(k::ks)):CallD X z (.builtin "min") [d] (.dat (P8 (fD uP k ks))):=by obtain⟨h1,h2⟩:=xq hi;rw[h1]at h;exact Qd (good:=isK) hc Qf (λs k1 k2 u1 u2 g1 g2 x y=>WM g1 g2 x y (by rw[in1_units];lia)) hK h h2
end
def unT(x: ~~~0):D:=.tup (x.map .int)
theorem Qh(x: ~~~0)(_:x≠[]):gH (unT x)=true:=xm x
section
variable{X:Cx}{z:Z}
theorem Cy:∀{l:List D}{ur: ~~~5},gW l=!ur->∀x∈ur,x≠[]
 | [],_,e=>by cases e;exact λ_ z=>nomatch z
 |d::l,ur,e=>by
  cases d with
  |tup m=>
   unfold gW at e;split at e
   . rename_i n ns ur e1 e2;cases e;exact λx hx=>(eJ.mp hx).elim (λz=>by rw[z];exact List.cons_ne_nil _ _) (Cy e2 x)
   . cases e
  |_=>cases e
theorem zF{l:List D}{ur: ~~~5}(hK:z.K=X.K)(hi:gW l=!ur)(hl:ur.length<64):CallD X z (.builtin "sorted") [.lst l] (.new ((aN dD ur).map λns=>.tup (ns.map .int))):=by
 have iN:=Cy hi;rw[uR hi];refine zE (O:=dD) (un:=unT) (good:=λx=>x≠[]) Qh (λhp k u hk q=>?_) (λs k1 k2 u1 u2 C _ _ x y hC=>?_) [] hK iN hl
 .
  cases q with
  |tup i v=>
   cases k with
   |nil=>exact absurd rfl hk
   |cons a k=>
    cases v with
    |cons b c=>cases b;obtain⟨o,e1,e2,n,e3⟩:=i;exact#[_,o,_,_,_,n,rfl,e1,e2,e3]
 .
  cases x with
  |tup i1 v1=>
   cases y with
   |tup i2 v2=>obtain⟨o,e1,e2,n1,e3⟩:=i1;obtain⟨o2,e4,e5,n2,e6⟩:=i2;refine kat_lt e1 e3 e4 e6 (JR v1.ints 0 v2.ints ?_ hC);rw[<- v1.ints.length,<- v2.ints.length];simp
end
end Ev
namespace Nk
open PySem
inductive Kt where
 |nil |ci (i:Int) (r:Kt) |ct (a r:Kt)
deriving DecidableEq
section
variable(h:Heap)
def Tw(T:List Value->Prop)(ad:Addr):Prop:=∃o its n,h.get? ad=!o/\o.cls=.type "tuple" /\o.data=.seq its n/\T its.toList
noncomputable def IsT:Kt->List Value->Prop
 |.nil,vs=>vs=[]
 |.ci i r,vs=>∃t us,vs=.int i t::us/\IsT r us
 |.ct a r,vs=>∃ad us,vs=.ref ad::us/\Tw h (IsT a) ad/\IsT r us
abbrev m9 (k:Kt) (ad:Addr):Prop:=Tw h (IsT h k) ad
end
noncomputable def xr:Kt->List Int
 |.nil=>[]
 |.ci i r=>hashInt i::xr r
 |.ct a r=>reduceHash (Builtin.Tuple.tupleHashOf (xr a))::xr r
abbrev Zk(k:Kt):Int:=reduceHash (Builtin.Tuple.tupleHashOf (xr k))
noncomputable def dep:Kt->Nat
 |.nil=>0
 |.ci _ r=>dep r
 |.ct a r=>max (dep a+1) (dep r)
def uU:Kt->Nat
 |.nil=>0
 |.ci _ r=>1+uU r
 |.ct a r=>(uU a+1)+uU r
section
variable{h h':Heap}
theorem Tw.typeIs{s:Shared}{T:List Value->Prop}{ad:Addr}(x:Tw s.heap T ad):s.TypeIs (.ref ad) "tuple" :=let #[o,_,_,ho,hc,_]:=x;#[o,ho,hc]
theorem xu(kp:∀b o,(∃its n,o.data=.seq its n)->h.get? b=!o->h'.get? b=!o){T T':List Value->Prop}(f:∀{vs},T vs->T' vs){ad:Addr}(x:Tw h T ad):Tw h' T' ad:=
 let #[o,its,n,e,c,d,q]:=x;#[o,its,n,kp _ _ #[_,_,d] e,c,d,f q]
theorem J9(kp:∀b o,(∃its n,o.data=.seq its n)->h.get? b=!o->h'.get? b=!o):∀{vs},IsT h k vs->IsT h' k vs:=by
 induction k with
 |nil=>intro vs x;exact x
 |ci i r ir=>rintro vs ⟨t,us,e,x⟩;exact#[t,us,e,ir x]
 |ct a r ia ir=>rintro vs ⟨ad,us,e,q,x⟩;exact#[ad,us,e,xu kp ia q,ir x]
theorem Ka(kp:∀b o,(∃its n,o.data=.seq its n)->h.get? b=!o->h'.get? b=!o){k:Kt}{ad:Addr}(x:m9 h k ad):m9 h' k ad:=xu kp (J9 kp) x
theorem Cz{T U:List Value->Prop}{x y:Kt}(f:∀{vs},T vs->U vs->x=y){ad:Addr}(p:Tw h T ad)(q:Tw h U ad):x=y:=by obtain⟨o,its,n,e1,_,d1,z1⟩:=p;obtain⟨o',its',n',e2,_,d2,z2⟩:=q;obtain rfl:o=o':=l5 (e1.symm.trans e2);rw[d1]at d2;injection d2 with d2;subst d2;exact f z1 z2
theorem Qi:∀{y:Kt}{vs:List Value},IsT h x vs->IsT h y vs->x=y:=by
 induction x with
 |nil=>
  intro y vs p q;cases (show vs=[]from p)
  cases y with
  |nil=>rfl
  |ci _ _=>obtain⟨_,_,e,_⟩:=q;cases e
  |ct _ _=>obtain⟨_,_,e,_⟩:=q;cases e
 |ci i r ir=>
  rintro y vs ⟨t,us,rfl,p⟩ q;cases y with
  |nil=>cases (show _=[]from q)
  |ci _ _=>obtain⟨_,_,e,q⟩:=q;cases e;rw[ir p q]
  |ct _ _=>obtain⟨_,_,e,_⟩:=q;cases e
 |ct a r ia ir=>
  rintro y vs ⟨ad,us,rfl,p,p'⟩ q;cases y with
  |nil=>cases (show _=[]from q)
  |ci _ _=>obtain⟨_,_,e,q⟩:=q;cases e
  |ct _ _=>obtain⟨_,_,e,q,q'⟩:=q;cases e;rw[ir p' q',Cz ia p q]
theorem Qj{x y:Kt}{ad:Addr}(p:m9 h x ad)(q:m9 h y ad):x=y:=Cz Qi p q
end
noncomputable def El(P:Kt->Prop):Kt->Prop
 |.nil=>True
 |.ci _ r=>El P r
 |.ct a r=>P a/\El P r
theorem uV(f:∀k,El P k->P k):∀k,P k/\El P k:=by
 intro k
 induction k with
 |nil=>exact#[f _ trivial,trivial]
 |ci i r ir=>exact#[f _ ir.2,ir.2]
 |ct a b ia ib=>exact#[f _ #[ia.1,ib.2],ia.1,ib.2]
section
variable{prog:Program}{w:World}
def uW(prog:Program)(w:World)(k:Kt):Prop:=∀⦃A:Around⦄ ⦃E:Value->Shared->Prop⦄ ⦃s:Shared⦄ ⦃a:Addr⦄ ⦃Q:Int->Shared->Prop⦄,A.units+dep k<cLine->m9 s.heap k a->Q (Zk k) { s with toks:=s.toks+(uU k+1)}->
  wpAny (model prog w) A (pyHash (.ref a)) Q E s
theorem Qk(k:Kt):uW prog w k:=by
 refine (uV (λk ek=>?_) k).1
 intro A E s a Q hu hr h;have hT:=hr.typeIs;obtain⟨o,items,n,ho,_,hd,hi⟩:=hr
 first |unfold pyHashByItsType |skip
 first |refine aS (wpAny_cRoomFor_or (.inr ⋯) ?_) |skip
 refine aS (AW hT F.slot_tuple_hash.lookup ?_);refine aS (AW hT F.slot_tuple_hash.lookup ?_);refine aS (wpAny_callSpecialIfBoundUnlessNone?_slot hT F.slot_tuple_hash (o3 F.slot_tuple_hash hT F.entry_tuple_hash ?_ (F.args_tuple_hash_1 _)));show wpAny _ _ (Builtin.Tuple.tupleItemsOf (.ref a) >>= _) _ _ s;refine aS (wpAny_tupleItemsOf ho hd ?_);refine aS ?_;rw[<- BF];refine Ap _
  (λaD (b:Array Int) s'=>∃l,El (uW prog w) l/\dep l<=dep k/\IsT s.heap l aD/\b.toList++xr l=xr k/\∃t,t+uU l=uU k/\s'={ s with toks:=s.toks+t})
  _ ?_ ?_ _ _ #[k,ek,eD _,hi,rfl,0,AB _,rfl]
 .
  rintro x aD b s' ⟨l,el,hl2,hl,hb,t,ht,rfl⟩;cases l with
  |nil=>cases (show x::aD=[]from hl)
  |ci i r=>
   obtain⟨tk,_,e,hr1⟩:=hl;cases e;have dt:t+(1+uU r)=uU k:=ht;refine aS ((intKind prog w).pyHash (by show Value.isInt i (.int i tk)=true;simp[Value.isInt]) ?_)
   have next:∃l,El (uW prog w) l/\dep l<=dep k/\IsT s.heap l aD/\(b.push (hashInt i)).toList++xr l=xr k/\∃t',t'+uU l=uU k/\({ s with toks:=s.toks+t+1}:Shared)={ s with toks:=s.toks+t'}:=
    #[r,el,hl2,hr1,by rw[<- hb];simp[xr],t+1,by lia,by rw[Nat.add_assoc]]
   first
    |exact dA next
    |exact aS (dA (dA next))
  |ct u r=>
   obtain⟨ad,_,e,hu1,hr1⟩:=hl;cases e;have du:dep u+1<=dep k/\dep r<=dep k:=by have:max (dep u+1) (dep r)<=dep k:=hl2;lia
   have dt:t+((uU u+1)+uU r)=uU k:=ht;refine aS (el.1 (by show A.units+1+dep u<cLine;lia) hu1 ?_)
   have next:∃l,El (uW prog w) l/\dep l<=dep k/\IsT s.heap l aD/\(b.push (Zk u)).toList++xr l=xr k/\∃t',t'+uU l=uU k/\({ s with toks:=s.toks+t+(uU u+1)}:Shared)={ s with toks:=s.toks+t'}:=
    #[r,el.2,du.2,hr1,by rw[<- hb];simp[xr],t+(uU u+1),by lia,by rw[Nat.add_assoc]]
   first
    |exact dA next
    |exact aS (dA (dA next))
 .
  rintro b s' ⟨l,_,_,hl,hb,t,ht,rfl⟩;have e0:xr l=[]/\uU l=0:=by
   cases l with
   |nil=>exact#[rfl,rfl]
   |ci _ _=>obtain⟨_,_,e,_⟩:=hl;cases e
   |ct _ _=>obtain⟨_,_,e,_⟩:=hl;cases e
  rw[e0.1,n0]at hb;rw[e0.2]at ht;subst ht;show wpAny _ _ (retInt (Builtin.Tuple.tupleHashOf b.toList)) _ _ _;rw[hb];refine wpAny_ret_mkInt ?_;show wpAny _ _ (if (decide (-(2:Int) ^ 63<=Builtin.Tuple.tupleHashOf (xr k))&&decide (Builtin.Tuple.tupleHashOf (xr k)<2 ^ 63))=true then _ else _) Q E _
  unfold Zk reduceHash at h;by_cases hr:(decide (-(2:Int) ^ 63<=Builtin.Tuple.tupleHashOf (xr k))&&decide (Builtin.Tuple.tupleHashOf (xr k)<2 ^ 63))=true
  . rw[eR hr];rw[eR hr]at h;exact dA (by simpa [Nat.add_assoc]using h)
  . rw[eP hr];rw[eP hr]at h;exact aS (A5 (dA (by simpa [Nat.add_assoc]using h)))
open Ev in
noncomputable def dT:Kt->List D
 |.nil=>[]
 |.ci i r=>.int i::dT r
 |.ct a r=>.tup (dT a)::dT r
open Ev in
theorem Kc:∀{vs:List Value},IsT h k vs->jx h (dT k) vs:=by
 induction k with
 |nil=>intro vs x;cases (show vs=[]from x);exact .nil
 |ci i r ir=>rintro vs ⟨t,us,rfl,x⟩;exact .cons (.int i t) (ir x)
 |ct a r ia ir=>rintro vs ⟨ad,us,rfl,⟨o,its,n,e,c,d,q⟩,x⟩;exact .cons (.tup (us:=its.toList) #[o,e,c,n,by simpa using d] (ia q)) (ir x)
open Ev in
theorem Tz:∀y:Kt,bY (dT x) (dT y)=decide (x=y):=by
 induction x with
 |nil=>intro y;cases y <;> rfl
 |ci i r ir=>
  intro y;cases y with
  |nil=>rfl
  |ci j q=>show (cS (.int i) (.int j)&&bY (dT r) (dT q))=_;rw[ir q];by_cases e:i=j <;> simp[cS,e]
  |ct _ _=>rfl
 |ct a r ia ir=>
  intro y;cases y with
  |nil=>rfl
  |ci j q=>rfl
  |ct b q=>show (cS (.tup (dT a)) (.tup (dT b))&&bY (dT r) (dT q))=_;rw[ir q];show (bY (dT a) (dT b)&&_)=_;rw[ia b];simp
open Ev in
theorem Kd:∀k:Kt,deps (dT k)=dep k:=by
 intro k
 induction k with
 |nil=>rfl
 |ci i r ir=>show max 0 (deps (dT r))=dep r;rw[ir];lia
 |ct a r ia ir=>show max (deps (dT a)+1) (deps (dT r))=max (dep a+1) (dep r);rw[ir,ia]
theorem xx{A:Around}{E:Value->Shared->Prop}{s:Shared}(k:Kt):∀{n:Nat}{a:Addr}{Q:Bool->Shared->Prop},dep k<n->m9 s.heap k a->Q true s->wpAny (model prog w) A (eqIsQuiet n (.ref a)) Q E s:=by
 refine (uV (P:=λk=>∀{n:Nat}{a:Addr}{Q:Bool->Shared->Prop},dep k<n->m9 s.heap k a->Q true s->wpAny (model prog w) A (eqIsQuiet n (.ref a)) Q E s) (λk ek=>?_) k).1
 intro n a Q hn hr h;have hT:=hr.typeIs;obtain⟨o,items,m,ho,_,hd,hi⟩:=hr;cases n with
 |zero=>exact absurd hn (mB _)
 |succ n=>
 unfold eqIsQuiet;refine aS (AW hT F.slot_tuple_eq.lookup ?_);refine aS (wpAny_isInstance hT isSubtype_tuple_tuple ?_);refine aS (yY ho hd ?_);refine aS ?_;rw[<- BF];refine Ap _ (λaD r s'=>r.1=none/\s'=s/\∃l,El (λk=>∀{n:Nat}{a:Addr}{Q:Bool->Shared->Prop},dep k<n->m9 s.heap k a->Q true s->wpAny (model prog w) A (eqIsQuiet n (.ref a)) Q E s) l/\dep l<=n/\IsT s.heap l aD) _ ?_ ?_ _ _ #[rfl,rfl,k,ek,by lia,hi]
 .
  rintro v aD r s' ⟨hr,rfl,l,el,dl,hl⟩;cases l with
  |nil=>cases (show v::aD=[]from hl)
  |ci i q=>obtain⟨tk,_,e,hr1⟩:=hl;cases e;rw[eqIsQuiet_byValue _ rfl];refine aS (dA ?_);exact dA #[rfl,rfl,q,el,dl,hr1]
  |ct u q=>
   obtain⟨ad,_,e,hu1,hr1⟩:=hl;cases e;have du:dep u+1<=n/\dep q<=n:=by have:max (dep u+1) (dep q)<=n:=dl;lia
   refine aS (el.1 ⋯ hu1 ?_);exact dA #[rfl,rfl,q,el.2,du.2,hr1]
 . rintro⟨r1,r2⟩ s' ⟨hr,rfl,_⟩;subst hr;exact dA h
abbrev Pn:={ k:Kt // dep k<=3}
theorem WN(hx:dep x<=3)(hu:A.units+4<cLine)(p:m9 s.heap x a)(q:m9 s.heap y b)(h:Q (decide (x=y)) s) :
  wpAny (model prog w) A (eqBool (.ref a) (.ref b)) Q E s:=by
 have dv:∀{k:Kt}{a:Addr},m9 s.heap k a->Ev.Dv s.heap (.tup (dT k)) (.ref a):=λ#[o,its,n,e,c,d,z]=>.tup #[o,e,c,n,by simpa using d] (Kc z)
 refine (Ev.pB 4 ?_ (dv p) (dv q) hu).1 prog w E Q ?_
 . show Ev.deps (dT x)+1<=4;rw[Kd];lia
 . show Q (Ev.bY (dT x) (dT y)) s;rw[Tz];exact h
end
end Nk
namespace Sb
open PySem
def FZ(xs:Array Nat):Prop:=∀i k,i<k->k<xs.size->xs.getD i 0<xs.getD k 0
theorem getD_in{xs:Array Nat}{i d:Nat}(h:i<xs.size):xs.getD i d=xs.getD i 0:=by simp[Array.getD,h]
theorem pZ{xs:Array Nat}(hr:FZ xs)(j:Nat):∀f lo hi,lo<=hi->hi<=xs.size->hi - lo<=f->(∀i,i<lo->xs.getD i 0<j)->(∀i,hi<=i->i<xs.size->j<=xs.getD i 0)->
  SetTable.below.go xs j f lo hi<=xs.size/\(∀i,i<SetTable.below.go xs j f lo hi->xs.getD i 0<j)/\(∀i,SetTable.below.go xs j f lo hi<=i->i<xs.size->j<=xs.getD i 0)
 | 0,lo,hi,h1,h2,h3,h4,h5=>by
  obtain rfl:lo=hi:=by lia
  exact#[h2,h4,h5]
 |f+1,lo,hi,h1,h2,h3,h4,h5=>by
  unfold SetTable.below.go;by_cases hlt:lo<hi
  .
   rw[eR hlt];have hm1:lo<=(lo+hi) / 2:=by lia
   have hm2:(lo+hi) / 2<hi:=by lia
   dsimp only;rw[getD_in (show (lo+hi) / 2<xs.size by lia)]
   by_cases hc:xs.getD ((lo+hi) / 2) 0<j
   .
    rw[eR hc];refine pZ hr j f _ _ ⋯ h2 ⋯ (λi hi'=>?_) h5
    by_cases e:i=(lo+hi) / 2
    . rw[e];exact hc
    . exact Nat.lt_trans (hr i ((lo+hi) / 2) ⋯ ⋯) hc
   .
    rw[eP hc];refine pZ hr j f _ _ hm1 ⋯ ⋯ h4 λi hi1 hi2=>?_
    by_cases e:i=(lo+hi) / 2
    . rw[e];lia
    . have:=hr ((lo+hi) / 2) i ⋯ hi2;lia
  .
   rw[eP hlt];obtain rfl:lo=hi:=by lia
   exact#[h2,h4,h5]
theorem kL(hr:FZ xs)(j:Nat):SetTable.below xs j<=xs.size/\(∀i,i<SetTable.below xs j->xs.getD i 0<j)/\(∀i,SetTable.below xs j<=i->i<xs.size->j<=xs.getD i 0):=
 pZ hr j xs.size 0 xs.size (o4 _) (eD _) ⋯ (λi h=>absurd h (mB i)) λi h1 h2=>absurd h2 ⋯
theorem sY{t:SetTable}(hr:FZ t.place){i:Nat}(hi:i<t.place.size):t.slot (t.place.getD i 0)=.live i:=by
 obtain⟨h1,h2,h3⟩:=kL hr (t.place.getD i 0);have e:SetTable.below t.place (t.place.getD i 0)=i:=by
  rcases AM (SetTable.below t.place (t.place.getD i 0)) i with h |h |h
  . have a:=h3 _ (eD _) (Nat.lt_trans h hi);have b:=hr _ _ h hi;lia
  . exact h
  . have:=h2 i h;lia
 unfold SetTable.slot;dsimp only;rw[e];have:t.place[i]?=!(t.place.getD i 0):=by simp[Array.getD,hi]
 rw[this];simp
theorem qc{t:SetTable}(hr:FZ t.place)(hd:t.dummies = ([].toArray)){j:Nat}(h:∀i,i<t.place.size->t.place.getD i 0≠j):t.slot j=.empty:=by
 unfold SetTable.slot;dsimp only;have h1:(t.place[SetTable.below t.place j]?==!j)=false:=by
  cases e:t.place[SetTable.below t.place j]? with
  |none=>rfl
  |some x=>
   obtain⟨hl,e⟩:=u7.mp e;have:=h _ hl;have e2:t.place.getD (SetTable.below t.place j) 0=x:=by simp[Array.getD,hl,e]
   rw[e2]at this;simpa using this
 have h2:SetTable.has t.dummies j=false:=by unfold SetTable.has;rw[hd];rfl
 rw[h1,h2];rfl
structure qg(o:Obj)(es:Array (Int×Value))(ep:Nat)(t:SetTable):Prop where
 ex:o.ExactSet
 data:o.data=.set es ep t
 fits:t.fits es.size=true
 sZ:FZ t.place
 plain:t.plain=true
theorem qg.sz{o:Obj}{es:Array (Int×Value)}{ep:Nat}{t:SetTable}(S:qg o es ep t):t.place.size=es.size:=by have h:=S.fits;unfold SetTable.fits at h;exact beq_iff_eq.mp (eM _ _▸h).1
end Sb
namespace Sb
open PySem
noncomputable def way(t:SetTable)(h:Int):Nat->SetTable.Probe
 | 0=>t.probeStart h
 |k+1=>t.advance (way t h k)
theorem Ga(t:SetTable)(p:SetTable.Probe):(t.advance p).dummy=p.dummy:=by
 unfold SetTable.advance;split
 . rfl
 . rfl
theorem tB(t:SetTable)(h:Int):∀k,(way t h k).dummy=none
 | 0=>rfl
 |k+1=>(Ga t _).trans (tB t h k)
def uX(t:SetTable)(j:Nat):Prop:=∃i,t.slot j=.live i
theorem TF(t:SetTable)(hs:Nat->Int)(h:Int):∀(N k f:Nat),(∀m,m<N->uX t (way t h (k+m)).j)->t.slot (way t h (k+N)).j=.empty->N<f->
  (∃m i,m<N/\t.slot (way t h (k+m)).j=.live i/\hs i=h/\(∀m',m'<m->∀i',t.slot (way t h (k+m')).j=.live i'->hs i'≠h)/\SetTable.probe.go t hs h f (way t h k)=!(.candidate (way t h (k+m)).j i (way t h (k+m+1))))\/
  ((∀m,m<N->∀i,t.slot (way t h (k+m)).j=.live i->hs i≠h)/\SetTable.probe.go t hs h f (way t h k)=!(.empty (way t h (k+N)).j none))
 | 0,k,f+1,_,he,_=>by
  right;refine#[λm hm=>absurd hm (mB m),?_]
  unfold SetTable.probe.go;rw[CO]at he ⊢
  rw[he];dsimp only;rw[tB]
 |N+1,k,f+1,hl,he,hf=>by
  obtain⟨i,hi⟩:=hl 0 (AO N);rw[CO]at hi;have aD:=TF t hs h N (k+1) f (λm hm=>by
   have:=hl (m+1) ⋯
   rwa [show k+(m+1)=k+1+m by lia]at this) (by rwa [show k+1+N=k+(N+1)by lia]) ⋯
  by_cases e:hs i=h
  .
   left;refine#[0,i,AO N,by rw[CO];exact hi,e,λm' hm'=>absurd hm' (mB m'),?_]
   unfold SetTable.probe.go;rw[hi];dsimp only;rw[eR (by rw[e];exact xL h)]
   rfl
  .
   have st:SetTable.probe.go t hs h (f+1) (way t h k)=SetTable.probe.go t hs h f (way t h (k+1)):=by
    conv=>lhs;unfold SetTable.probe.go
    rw[hi];dsimp only;rw[eP (by simpa using e)]
    rfl
   rcases aD with ⟨m,i2,h1,h2,h3,h4,h5⟩ |⟨h1,h2⟩
   .
    left;refine#[m+1,i2,by lia,by rw[show k+(m+1)=k+1+m by lia];exact h2,h3,λm' hm' i' hi'=>?_,?_]
    .
     cases m' with
     |zero=>rw[CO,hi]at hi';cases hi';exact e
     |succ m'=>exact h4 m' ⋯ i' (by rw[show k+1+m'=k+(m'+1)by lia];exact hi')
    . rw[st,h5,show k+(m+1)=k+1+m by lia]
   .
    right;refine#[λm hm i' hi'=>?_,?_]
    .
     cases m with
     |zero=>rw[CO,hi]at hi';cases hi';exact e
     |succ m=>exact h1 m ⋯ i' (by rw[show k+1+m=k+(m+1)by lia];exact hi')
    . rw[st,h2,show k+1+N=k+(N+1)by lia]
structure Tab(t:SetTable)(hs:Nat->Int)(n:Nat):Prop where
 sz:t.place.size=n
 sZ:FZ t.place
 Hx:t.dummies = ([].toArray)
 on:∀i,i<n->∃k,(way t (hs i) k).j=t.place.getD i 0/\∀m,m<k->uX t (way t (hs i) m).j
theorem Tab.ahead(T:Tab t hs n)(hl:∀m,m<N->uX t (way t h m).j)(he:t.slot (way t h N).j=.empty)(hi:i<n)(e:hs i=h):∃m,m<N/\t.slot (way t h m).j=.live i:=by
 obtain⟨k,h1,h2⟩:=T.on i hi;rw[e]at h1 h2;have hs':t.slot (way t h k).j=.live i:=by rw[h1];exact sY T.sZ (by rw[T.sz];exact hi)
 refine#[k,?_,hs'];rcases AM k N with q |q |q
 . exact q
 . rw[q,he]at hs';cases hs'
 . obtain⟨i',hi'⟩:=h2 N q;rw[he]at hi';cases hi'
end Sb
namespace Sb
open PySem
noncomputable def aW(mask:Nat)(h:Int):Nat->Nat×Nat
 | 0=>(SetTable.bits h % (mask+1),SetTable.bits h)
 |s+1=>SetTable.leap mask (aW mask h s).1 (aW mask h s).2
noncomputable def Ke(mask:Nat)(q:Nat×Nat):SetTable.Probe:={ j:=q.1,more:=SetTable.runEnd mask q.1 - q.1,i:=q.1,perturb:=q.2,dummy:=none}
theorem tE(mask i:Nat):SetTable.runEnd mask i - i<=9:=by unfold SetTable.runEnd;split <;> lia
theorem uY(t:SetTable)(h:Int){K:Nat}(e:way t h K=Ke t.mask q):∀d,d<=SetTable.runEnd t.mask q.1 - q.1->way t h (K+d)={ j:=q.1+d,more:=SetTable.runEnd t.mask q.1 - q.1 - d,i:=q.1,perturb:=q.2,dummy:=none}
 | 0,_=>e
 |d+1,hd=>by
  have ih:=uY t h e d ⋯;show t.advance (way t h (K+d))=_;rw[ih];unfold SetTable.advance;dsimp only;rw[eR ⋯]
  congr 1
theorem xA(t:SetTable)(h:Int):∀s,∃K,K<=10 * s/\way t h K=Ke t.mask (aW t.mask h s)
 | 0=>#[0,eD _,rfl]
 |s+1=>by
  obtain⟨K,h1,h2⟩:=xA t h s;have hr:=tE t.mask (aW t.mask h s).1;refine#[K+(SetTable.runEnd t.mask (aW t.mask h s).1 - (aW t.mask h s).1)+1,by lia,?_]
  show t.advance (way t h (K+_))=_;rw[uY t h h2 _ (eD _)];unfold SetTable.advance;dsimp only;rw[eP ⋯];rfl
theorem Ql(h:Int):SetTable.bits h<2 ^ 64:=by unfold SetTable.bits;have:h % 2 ^ 64<2 ^ 64:=Int.emod_lt_of_pos h ⋯;lia
theorem qh(mask:Nat)(h:Int):∀s,(aW mask h s).2=SetTable.bits h / 32 ^ s
 | 0=>by rw[Nat.pow_zero,Nat.div_one];rfl
 |s+1=>by
  show (aW mask h s).2 / 32=_;rw[qh mask h s,Nat.div_div_eq_div_mul,Nat.pow_succ]
theorem zG(mask:Nat)(h:Int)(s:Nat)(hs:13<=s):(aW mask h s).2=0:=by rw[qh];refine Nat.div_eq_of_lt (hU (Ql h) ?_);exact l4 ⋯ (A7 (show 0<32 by decide) hs)
def stp(mask x:Nat):Nat:=(x * 5+1) % (mask+1)
noncomputable def its(mask:Nat):Nat->Nat->Nat
 | 0,x=>x
 |r+1,x=>stp mask (its mask r x)
theorem lQ(mask:Nat)(h:Int):∀r,(aW mask h (13+r)).1=its mask r (aW mask h 13).1
 | 0=>rfl
 |r+1=>by
  show ((aW mask h (13+r)).1 * 5+1+(aW mask h (13+r)).2 / 32) % (mask+1)=_;rw[zG mask h (13+r) ⋯,lQ mask h r];rfl
noncomputable def Kg(mask:Nat):Nat->Nat->Nat->Nat
 | 0,_,acc=>acc
 |f+1,x,acc=>Kg mask f (stp mask x) (acc ||| (1 <<< x))
def jS(mask:Nat):Bool:=Kg mask (mask+1) 0 0==2 ^ (mask+1) - 1&&its mask (mask+1) 0==0
theorem kM(mask:Nat)(x:Nat):∀a b,its mask (a+b) x=its mask a (its mask b x)
 | 0,b=>by rw[AB];rfl
 |a+1,b=>by
  rw[show a+1+b=(a+b)+1 by lia]
  show stp mask (its mask (a+b) x)=_;rw[kM mask x a b];rfl
theorem Qm(mask x:Nat)(r:Nat):its mask r (stp mask x)=its mask (r+1) x:=by rw[kM mask x r 1];rfl
theorem xB(mask:Nat)(e:Nat):∀f x acc,(Kg mask f x acc).testBit e=true->acc.testBit e=true\/∃r,r<f/\its mask r x=e
 | 0,x,acc,h=>.inl h
 |f+1,x,acc,h=>by
  unfold Kg at h;rcases xB mask e f (stp mask x) _ h with q |⟨r,h1,h2⟩
  .
   rw[Nat.testBit_or,wT]at q;rcases q with q |q
   . exact .inl q
   . right;refine#[0,AO f,?_];rw[Nat.testBit_shiftLeft]at q;simp only[eM,l9]at q;show x=e;have:=q.2;rw[Nat.testBit_one_eq_true_iff_self_eq_zero]at this;have:=q.1;lia
  . exact .inr #[r+1,by lia,by rw[<- Qm];exact h2]
theorem Kh(hc:jS mask=true)(hi:i<=mask)(he:e<=mask):∃r,r<=mask/\its mask r i=e:=by
 unfold jS at hc;rw[eM,beq_iff_eq,beq_iff_eq]at hc;obtain⟨h1,h2⟩:=hc;have all:∀e,e<=mask->∃r,r<mask+1/\its mask r 0=e:=λe he=>by
  have hb:(Kg mask (mask+1) 0 0).testBit e=true:=by rw[h1,Nat.testBit_two_pow_sub_one];exact i5 ⋯
  rcases xB mask e _ _ _ hb with q |q
  . rw[Nat.zero_testBit]at q;cases q
  . exact q
 obtain⟨a,ha,ea⟩:=all i hi;obtain⟨b,hb,eb⟩:=all e he;by_cases hab:a<=b
 .
  refine#[b - a,by lia,?_]
  rw[<- ea,<- kM,show b - a+a=b by lia,eb]
 .
  refine#[mask+1 - a+b,by lia,?_]
  rw[<- ea,<- kM,show mask+1 - a+b+a=b+(mask+1)by lia,kM,h2,eb]
theorem xC(mask:Nat)(h:Int):∀s,(aW mask h s).1<=mask
 | 0=>BQ (Nat.mod_lt _ (AO mask))
 |s+1=>BQ (Nat.mod_lt _ (AO mask))
theorem Qo(hc:jS t.mask=true)(h:Int)(he:e<=t.mask):∃K,K<10 * SetTable.turns t.mask/\(way t h K).j=e:=by
 obtain⟨r,h1,h2⟩:=Kh hc (xC t.mask h 13) he;obtain⟨K,h3,h4⟩:=xA t h (13+r);refine#[K,?_,?_]
 . unfold SetTable.turns;lia
 . rw[h4];show (aW t.mask h (13+r)).1=e;rw[lQ,h2]
theorem cov7:jS 7=true:=by decide +kernel
theorem cov31:jS 31=true:=by decide +kernel
theorem WQ:jS 127=true:=by decide +kernel
theorem WR:jS 511=true:=by decide +kernel
theorem Qp:jS 2047=true:=by decide +kernel
end Sb
namespace Sb
open PySem
theorem qi(e:t'.mask=t.mask)(h:Int):∀k,way t' h k=way t h k
 | 0=>by
  show t'.probeStart h=t.probeStart h;unfold SetTable.probeStart;rw[e]
 |k+1=>by
  show t'.advance (way t' h k)=t.advance (way t h k);rw[qi e h k];unfold SetTable.advance;rw[e]
theorem iU(hr:FZ t.place)(hd:t.dummies = ([].toArray))(j:Nat):(uX t j ↔ ∃i,i<t.place.size/\t.place.getD i 0=j)/\(t.slot j=.empty ↔ ¬ ∃i,i<t.place.size/\t.place.getD i 0=j):=by
 by_cases h:∃i,i<t.place.size/\t.place.getD i 0=j
 . obtain⟨i,hi,e⟩:=h;have hl:=sY hr hi;rw[e]at hl;exact#[#[λ_=>#[i,hi,e],λ_=>#[i,hl]],#[λz=>(by rw[hl]at z;cases z),λz=>absurd #[i,hi,e] z]]
 .
  have he:=qc hr hd (j:=j) λi hi e=>h #[i,hi,e]
  exact#[#[λ#[i,z]=>(by rw[he]at z;cases z),λz=>absurd z h],#[λ_=>h,λ_=>he]]
theorem Kl(hr:FZ xs):∀i,i<xs.size->i<=xs.getD i 0
 | 0,_=>o4 _
 |i+1,h=>by
  have:=Kl hr i ⋯;have:=hr i (i+1) (oI i) h;lia
theorem Gb(hr:FZ xs):∃e,e<=xs.size/\∀i,i<xs.size->xs.getD i 0≠e:=by
 have:∀d,d<=xs.size->(∃e,e<=d/\∀i,i<xs.size->xs.getD i 0≠e)\/(∀i,i<d->xs.getD i 0=i):=λd=>by
  induction d with
  |zero=>intro _;exact .inr λi hi=>absurd hi (mB i)
  |succ d ih=>
   intro hd;rcases ih ⋯with ⟨e,h1,h2⟩ |h
   . exact .inl #[e,by lia,h2]
   .
    by_cases e:xs.getD d 0=d
    .
     exact .inr λi hi=>by
      by_cases ei:i=d
      . rw[ei];exact e
      . exact h i ⋯
    .
     left;refine#[d,by lia,λi hi z=>?_]
     have hg:=Kl hr d ⋯;rcases AM i d with q |q |q
     . rw[h i q]at z;lia
     . rw[q]at z;exact e z
     . have:=hr d i q hi;lia
 rcases this xs.size (eD _)with q |h
 . exact q
 . exact#[xs.size,eD _,λi hi z=>by rw[h i hi]at z;lia]
theorem least(p:Nat->Prop) [DecidablePred p]:∀K,p K->∃N,N<=K/\p N/\∀m,m<N->¬ p m
 | 0,h=>#[0,eD _,h,λm hm=>absurd hm (mB m)]
 |K+1,h=>by
  by_cases e:∃m,m<=K/\p m
  .
   obtain⟨m,h1,h2⟩:=e;have:∀d m,m<=d->p m->∃N,N<=m/\p N/\∀q,q<N->¬ p q:=λd=>by
    induction d with
    |zero=>intro m hm hp;exact#[m,eD _,hp,λq hq=>absurd hq ⋯]
    |succ d ih=>
     intro m hm hp;by_cases e:∃q,q<m/\p q
     . obtain⟨q,h1,h2⟩:=e;obtain⟨N,a,b,c⟩:=ih q ⋯ h2;exact#[N,by lia,b,c]
     . exact#[m,eD _,hp,λq hq z=>e #[q,hq,z]]
   obtain⟨N,a,b,c⟩:=this m m (eD _) h2;exact#[N,by lia,b,c]
  . exact#[K+1,eD _,h,λm hm z=>e #[m,by lia,z]]
theorem xD(T:Tab t hs n)(hc:jS t.mask=true)(hn:n<=t.mask)(h:Int):∃N,N<10 * SetTable.turns t.mask/\t.slot (way t h N).j=.empty/\∀m,m<N->uX t (way t h m).j:=by
 obtain⟨e,h1,h2⟩:=Gb T.sZ;obtain⟨K,h3,h4⟩:=Qo hc h (e:=e) (by rw[T.sz]at h1;lia)
 have h5:t.slot (way t h K).j=.empty:=by rw[h4];exact qc T.sZ T.Hx h2
 obtain⟨N,a,b,c⟩:=least (λk=>t.slot (way t h k).j=.empty) K h5
 refine#[N,by lia,b,λm hm=>?_]
 have:=c m hm;obtain⟨l1,l2⟩:=iU T.sZ T.Hx (way t h m).j;exact l1.mpr (AG λz=>this (l2.mpr z))
theorem getD_list(ys:Array Nat)(k:Nat):ys.getD k 0=ys.toList.getD k 0:=by
 by_cases h:k<ys.size
 . simp[Array.getD,dE,h]
 . simp[Array.getD,dE,h]
theorem dX(hp:p<=xs.size)(i:Nat):(SetTable.insertAt xs p x).getD i 0=if i<p then xs.getD i 0 else if i=p then x else xs.getD (i - 1) 0:=by
 have hl:(xs.toList.take p).length=p:=by rw[t9,i9];lia
 rw[getD_list,SetTable.toList_insertAt,dE];by_cases h1:i<p
 . rw[eR h1,dL ⋯,List.getElem?_take,eR h1,getD_list,dE]
 .
  rw[eP h1,eI ⋯,hl];by_cases h2:i=p
  . rw[eR h2,h2,B6];rfl
  . rw[eP h2,show i - p=(i - p - 1)+1 by lia,List.getElem?_cons_succ,List.getElem?_drop,show p+(i - p - 1)=i - 1 by lia,getD_list,dE]
theorem iV(xs:Array Nat)(p x:Nat):(SetTable.insertAt xs p x).size=xs.size+1:=by have:=(SetTable.insertAt_perm xs p x).length_eq;rw[i9,i9,Array.size_push]at this;exact this
noncomputable def Qq(hs:Nat->Int)(p:Nat)(h:Int)(i:Nat):Int:=if i<p then hs i else if i=p then h else hs (i - 1)
theorem Km(t:SetTable)(hd:t.dummies = ([].toArray))(j:Nat):t.put j=({ t with place:=SetTable.insertAt t.place (SetTable.below t.place j) j},SetTable.below t.place j):=by
 unfold SetTable.put;have:SetTable.has t.dummies j=false:=by unfold SetTable.has;rw[hd];rfl
 dsimp only;rw[this];rfl
theorem Tab.put(T:Tab t hs n)(hl:∀m,m<N->uX t (way t h m).j)(he:t.slot (way t h N).j=.empty):Tab (t.put (way t h N).j).1 (Qq hs (t.put (way t h N).j).2 h) (n+1):=by
 generalize hj:(way t h N).j=j at he;rw[Km t T.Hx j];obtain⟨b1,b2,b3⟩:=kL T.sZ j;have iN:=(iU T.sZ T.Hx j).2.mp he;dsimp only;have Ny:(SetTable.insertAt t.place (SetTable.below t.place j) j).size=n+1:=by rw[iV,T.sz]
 have b3':∀i,SetTable.below t.place j<=i->i<t.place.size->j<t.place.getD i 0:=λi h1 h2=>by
  have:=b3 i h1 h2;have:t.place.getD i 0≠j:=λz=>iN #[i,h2,z]
  lia
 have Ko:FZ (SetTable.insertAt t.place (SetTable.below t.place j) j):=λa c hac hc=>by
  rw[dX b1,dX b1];rw[iV]at hc;by_cases h1:c<SetTable.below t.place j
  . rw[eR h1,eR ⋯];exact T.sZ a c hac ⋯
  .
   rw[eP h1];by_cases h2:c=SetTable.below t.place j
   . rw[eR h2,eR ⋯];exact b2 a ⋯
   .
    rw[eP h2];by_cases h3:a<SetTable.below t.place j
    . rw[eR h3];exact Nat.lt_trans (b2 a h3) (b3' (c - 1) ⋯ ⋯)
    .
     rw[eP h3];by_cases h4:a=SetTable.below t.place j
     . rw[eR h4];exact b3' (c - 1) ⋯ ⋯
     . rw[eP h4];exact T.sZ (a - 1) (c - 1) ⋯ ⋯
 have mem:∀x,(∃i,i<t.place.size/\t.place.getD i 0=x)\/x=j->∃i,i<(SetTable.insertAt t.place (SetTable.below t.place j) j).size/\(SetTable.insertAt t.place (SetTable.below t.place j) j).getD i 0=x:=λx hx=>by
  rcases hx with ⟨i,hi,e⟩ |e
  .
   by_cases h1:i<SetTable.below t.place j
   . exact#[i,by rw[iV];lia,by rw[dX b1,eR h1];exact e]
   . exact#[i+1,by rw[iV];lia,by rw[dX b1,eP ⋯,eP ⋯,Nat.add_sub_cancel];exact e]
  . exact#[SetTable.below t.place j,by rw[iV];lia,by rw[dX b1,eP ⋯,eR rfl];exact e.symm]
 have live:∀x,uX t x\/x=j->uX { t with place:=SetTable.insertAt t.place (SetTable.below t.place j) j} x:=λx hx=>by
  refine (iU (t:={ t with place:=SetTable.insertAt t.place (SetTable.below t.place j) j}) Ko T.Hx x).1.mpr (mem x ?_);exact hx.imp (λz=>(iU T.sZ T.Hx x).1.mp z) id
 have wm:=λh k=>qi (t:=t) (t':={ t with place:=SetTable.insertAt t.place (SetTable.below t.place j) j}) rfl h k
 refine#[Ny,Ko,T.Hx,λi hi=>?_]
 unfold Qq;by_cases h1:i<SetTable.below t.place j
 .
  rw[eR h1];obtain⟨k,k1,k2⟩:=T.on i (by have:=T.sz;lia)
  refine#[k,?_,λm hm=>?_]
  . rw[wm,k1];show _=(SetTable.insertAt t.place (SetTable.below t.place j) j).getD i 0;rw[dX b1,eR h1]
  . rw[wm];exact live _ (.inl (k2 m hm))
 .
  rw[eP h1];by_cases h2:i=SetTable.below t.place j
  .
   rw[eR h2];refine#[N,?_,λm hm=>?_]
   . rw[wm,hj];show _=(SetTable.insertAt t.place (SetTable.below t.place j) j).getD i 0;rw[dX b1,eP h1,eR h2]
   . rw[wm];exact live _ (.inl (hl m hm))
  .
   rw[eP h2];obtain⟨k,k1,k2⟩:=T.on (i - 1) ⋯;refine#[k,?_,λm hm=>?_]
   . rw[wm,k1];show _=(SetTable.insertAt t.place (SetTable.below t.place j) j).getD i 0;rw[dX b1,eP h1,eP h2]
   . rw[wm];exact live _ (.inl (k2 m hm))
end Sb
namespace Sb
open PySem
noncomputable def bare(mask:Nat):SetTable:={ mask,place:=([].toArray),dummies:=([].toArray),finger:=0,led:=true,moves:=0,plain:=true}
def zH(owner:Array (Option Nat))(j:Nat):Prop:=owner.getD j (!0)=none
theorem CG:∀(f s K:Nat),way (bare mask) h K=Ke mask (aW mask h s)->(∀m,m<K->¬ zH owner (way (bare mask) h m).j)->(∃s',s<=s'/\s'<s+f/\zH owner (aW mask h s').1)->
  ∃N,SetTable.layClean.free mask owner f (aW mask h s).1 (aW mask h s).2=some (way (bare mask) h N).j/\zH owner (way (bare mask) h N).j/\∀m,m<N->¬ zH owner (way (bare mask) h m).j
 | 0,s,K,_,_,hx=>by
  obtain⟨s',h1,h2,_⟩:=hx;lia
 |f+1,s,K,hK,hb,hx=>by
  have run:=uY (bare mask) h hK;unfold SetTable.layClean.free;cases e:(List.range (SetTable.runEnd mask (aW mask h s).1+1 - (aW mask h s).1)).find? (λk=>(owner.getD ((aW mask h s).1+k) (!0)).isNone)with
  |some d=>
   obtain⟨hd,hm,hbef⟩:=List.find?_range_eq_some.mp e;rw[lS]at hm;have r:=run d (by have:(bare mask).mask=mask:=rfl;lia)
   refine#[K+d,?_,?_,λm hm'=>?_]
   . rw[r]
   . rw[r];show owner.getD ((aW mask h s).1+d) (!0)=none;simpa using hd
   .
    by_cases h1:m<K
    . exact hb m h1
    .
     have:=run (m - K) (by have:(bare mask).mask=mask:=rfl;lia)
     rw[show K+(m - K)=m by lia]at this
     rw[this];intro z;have q:=hbef (m - K) ⋯;have z':owner.getD ((aW mask h s).1+(m - K)) (!0)=none:=z;rw[z']at q;cases q
  |none=>
   have hn:=List.find?_range_eq_none.mp e;have hr:=tE mask (aW mask h s).1;have hre:(aW mask h s).1<=SetTable.runEnd mask (aW mask h s).1:=by unfold SetTable.runEnd;split <;> lia
   have nf:∀d,d<=SetTable.runEnd mask (aW mask h s).1 - (aW mask h s).1->¬ zH owner ((aW mask h s).1+d):=λd hd z=>by
    have q:=hn d ⋯;have z':owner.getD ((aW mask h s).1+d) (!0)=none:=z;rw[z']at q;cases q
   show ∃N,SetTable.layClean.free mask owner f (aW mask h (s+1)).1 (aW mask h (s+1)).2=_/\_;refine CG f (s+1) (K+(SetTable.runEnd mask (aW mask h s).1 - (aW mask h s).1)+1) ?_ (λm hm=>?_) ?_
   . show (bare mask).advance (way (bare mask) h (K+_))=_;have r:=run _ (eD _);have hm:(bare mask).mask=mask:=rfl;rw[hm]at r;rw[r];unfold SetTable.advance;dsimp only;rw[eP ⋯];rfl
   .
    by_cases h1:m<K
    . exact hb m h1
    .
     have:=run (m - K) (by have:(bare mask).mask=mask:=rfl;rw[this];lia)
     rw[show K+(m - K)=m by lia]at this
     rw[this];exact nf (m - K) ⋯
   .
    obtain⟨s',h1,h2,h3⟩:=hx;refine#[s',?_,by lia,h3]
    by_cases e2:s'=s
    . rw[e2]at h3;exact absurd h3 (nf 0 (o4 _))
    . lia
theorem zI(t:SetTable)(h:Int):∀k,(way t h k).j<=t.mask/\(way t h k).j+(way t h k).more<=t.mask
 | 0=>by
  have h1:SetTable.bits h % (t.mask+1)<=t.mask:=BQ (Nat.mod_lt _ (AO _));refine#[h1,?_];show SetTable.bits h % (t.mask+1)+(SetTable.runEnd t.mask (SetTable.bits h % (t.mask+1)) - SetTable.bits h % (t.mask+1))<=t.mask;unfold SetTable.runEnd;split <;> lia
 |k+1=>by
  obtain⟨h1,h2⟩:=zI t h k;show (t.advance (way t h k)).j<=t.mask/\(t.advance (way t h k)).j+(t.advance (way t h k)).more<=t.mask;unfold SetTable.advance;by_cases hm:(way t h k).more > 0
  . rw[eR hm];dsimp only;lia
  .
   rw[eP hm];have h3:(SetTable.leap t.mask (way t h k).i (way t h k).perturb).1<=t.mask:=BQ (Nat.mod_lt _ (AO _));generalize SetTable.leap t.mask (way t h k).i (way t h k).perturb=q at h3;obtain⟨q1,q2⟩:=q;dsimp only at h3 ⊢
   refine#[h3,?_];unfold SetTable.runEnd;split <;> lia
structure Lay(mask:Nat)(hs: ~~~0)(owner:Array (Option Nat))(js:List Nat):Prop where
 sz:owner.size=mask+1
 len:js.length=hs.length
 nd:js.Nodup
 le:∀j∈js,j<=mask
 own:∀j k,j<=mask->(owner.getD j none=some k ↔ js[k]?=!j)
 on:∀(k:Nat) (h:Int),hs[k]?=!h->∃N,js[k]?=some (way (bare mask) h N).j/\∀m,m<N->(way (bare mask) h m).j∈js
theorem zJ{owner:Array (Option Nat)}{j:Nat}(h:j<owner.size)(d:Option Nat):owner.getD j d=owner.getD j none:=by simp[Array.getD,h]
theorem Lay.free{mask:Nat}{hs: ~~~0}{owner:Array (Option Nat)}{js:List Nat}(L:Lay mask hs owner js){j:Nat}(hj:j<=mask):zH owner j ↔ j∉js:=by
 unfold zH;rw[zJ (by rw[L.sz];lia)]
 constructor
 .
  intro e hm;obtain⟨k,hk,e2⟩:=v6 hm;have:=(L.own j k hj).mpr (by rw[eA hk,e2])
  rw[e]at this;cases this
 .
  intro hm;cases e:owner.getD j none with
  |none=>rfl
  |some k=>have:=(L.own j k hj).mp e;exact absurd (i8 this) hm
theorem Lay.start(mask:Nat):Lay mask [] (Array.replicate (mask+1) none) []:=by
 refine#[by simp,rfl,qS,λj h=>(nomatch h),λj k hj=>?_,λk h e=>(by cases e)]
 have:(Array.replicate (mask+1) (none:Option Nat)).getD j none=none:=by
  have:j<(Array.replicate (mask+1) (none:Option Nat)).size:=by simp;lia
  simp[Array.getD,this]
 rw[this];constructor
 . intro z;cases z
 . intro z;cases z
theorem Lay.step(hc:jS mask=true)(L:Lay mask hs owner js)(hn:hs.length<=mask)(h:Int):∃j,SetTable.layClean.free mask owner (SetTable.turns mask) (SetTable.bits h % (mask+1)) (SetTable.bits h)=!j/\Lay mask (hs++[h]) (owner.setIfInBounds j (!hs.length)) (js++[j]):=by
 obtain⟨e,he,hfree⟩:∃e,e<=mask/\e∉js:=by
  refine AG λz=>?_
  have hall:∀e∈List.range (mask+1),e∈js:=λe he=>AG λq=>z #[e,by have:=lS.mp he;lia,q]
  have:=List.nodup_range.length_le_of_subset hall;rw[AL,L.len]at this;lia
 obtain⟨r,h1,h2⟩:=Kh hc (xC mask h 13) he;obtain⟨N,f1,f2,f3⟩:=CG (mask:=mask) (h:=h) (owner:=owner) (SetTable.turns mask) 0 0 rfl (λm hm=>absurd hm (mB m)) #[13+r,o4 _,by unfold SetTable.turns;lia,by
  rw[lQ,h2];exact (L.free he).mpr hfree]
 have hj:=(zI (bare mask) h N).1;have hj':(way (bare mask) h N).j<=mask:=hj;have hnew:(way (bare mask) h N).j∉js:=(L.free hj').mp f2;refine#[(way (bare mask) h N).j,f1,by simpa using L.sz,by rw[fA,fA,L.len];rfl,?_,λx hx=>?_,λx k hx=>?_,λk h' e'=>?_]
 . rw[oT];exact#[L.nd,by simp,λa ha b hb=>by rw[fI.mp hb];exact λz=>hnew (z▸ha)]
 .
  rcases o5.mp hx with q |q
  . exact L.le x q
  . rw[fI.mp q];exact hj'
 .
  have hxs:x<owner.size:=by rw[L.sz];lia
  have hjs:(way (bare mask) h N).j<owner.size:=by rw[L.sz];lia
  generalize (way (bare mask) h N).j=j at hnew hj' hjs;have ge:(owner.setIfInBounds j (!hs.length)).getD x none=if j=x then some hs.length else owner.getD x none:=by
   rw[pE,pE,Array.getElem?_setIfInBounds];by_cases e:j=x
   . rw[eR e,eR e,eR hjs];rfl
   . rw[eP e,eP e]
  rw[ge];by_cases e:j=x
  .
   rw[eR e,<- e];constructor
   .
    intro q;cases q;rw[eI (by rw[L.len];exact eD _),L.len]
    simp
   .
    intro q;by_cases hk:k<js.length
    . rw[dL hk]at q;exact absurd (i8 q) hnew
    .
     rw[eI ⋯]at q;have:k - js.length=0:=by
      cases hk0:k - js.length with
      |zero=>rfl
      |succ d=>rw[hk0]at q;cases q
     have:=L.len;rw[show k=hs.length by lia]
  .
   rw[eP e,L.own x k hx];by_cases hk:k<js.length
   . rw[dL hk]
   .
    rw[tP ⋯,eI ⋯];constructor
    . intro q;cases q
    .
     intro q;cases hk0:k - js.length with
     |zero=>rw[hk0]at q;cases q;exact absurd rfl e
     |succ d=>rw[hk0]at q;cases q
 .
  by_cases hk:k<hs.length
  . rw[dL hk]at e';obtain⟨M,m1,m2⟩:=L.on k h' e';refine#[M,by rw[dL (by rw[L.len];exact hk)];exact m1,λm hm=>oD _ (m2 m hm)]
  .
   rw[eI ⋯]at e';cases hk0:k - hs.length with
   |zero=>
    rw[hk0]at e';cases e';refine#[N,by rw[eI (by rw[L.len];lia),L.len,hk0];rfl,λm hm=>oD _ ?_]
    have:=f3 m hm;have hw:=(zI (bare mask) h m).1;exact AG λz=>this ((L.free hw).mpr z)
   |succ d=>rw[hk0]at e';cases e'
end Sb
namespace Sb
open PySem
noncomputable def Kp(mask:Nat)(acc:Option (Array (Option Nat)×Nat))(h:Int):Option (Array (Option Nat)×Nat):=do
 let (owner,k) <- acc
 let j <- SetTable.layClean.free mask owner (SetTable.turns mask) (SetTable.bits h % (mask+1)) (SetTable.bits h)
 pure (owner.setIfInBounds j (!k),k+1)
theorem xE(hc:jS mask=true):∀(l hs: ~~~0) (owner:Array (Option Nat)) (js:List Nat),Lay mask hs owner js->hs.length+l.length<=mask+1->∃owner' js',l.foldl (Kp mask) (!(owner,hs.length))=!(owner',(hs++l).length)/\Lay mask (hs++l) owner' js'
 | [],hs,owner,js,L,_=>#[owner,js,by rw[n0];rfl,by rw[n0];exact L]
 |h::l,hs,owner,js,L,hn=>by
  rw[hV]at hn;obtain⟨j,e,L'⟩:=L.step hc ⋯ h;obtain⟨o2,j2,w1,w2⟩:=xE hc l (hs++[h]) _ _ L' (by rw[fA,tJ];lia)
  refine#[o2,j2,?_,by rw[rV]at w2;exact w2]
  rw[List.foldl_cons];have st:Kp mask (!(owner,hs.length)) h=!(owner.setIfInBounds j (!hs.length),(hs++[h]).length):=by unfold Kp;simp only[Option.bind_eq_bind,Option.bind_some,e,fA,tJ];rfl
  rw[st,w1,rV];rfl
theorem xF(hc:jS mask=true)(hs:Array Int)(hn:hs.size<=mask):∃owner js,SetTable.layClean mask hs=!owner/\Lay mask hs.toList owner js:=by
 obtain⟨owner,js,w1,w2⟩:=xE hc hs.toList [] _ _ (Lay.start mask) (by have:=i9 (xs:=hs);rw[wS];lia)
 refine#[owner,js,?_,w2];unfold SetTable.layClean;have e:hs.foldl (Kp mask) (!(Array.replicate (mask+1) none,0))=!(owner,hs.toList.length):=by rw[<- Array.foldl_toList];exact w1
 show ((hs.foldl (Kp mask) (!(Array.replicate (mask+1) none,0))).map (·.1))=!owner;rw[e];rfl
theorem zK{f:Nat->Option Nat}:∀l:List Nat,(l.filterMap λj=>(f j).map (j,·)).map (·.1)=l.filter λj=>(f j).isSome
 | []=>rfl
 |j::l=>by
  rw[vS,List.filter_cons];cases e:f j with
  |none=>exact zK l
  |some k=>simp only[AJ,List.map_cons,Option.isSome_some,CU];rw[zK l]
theorem gX{l:List Nat}(i:Nat):l.toArray.getD i 0=l.getD i 0:=by rw[getD_list]
theorem zL{p:Nat->Bool}(n:Nat):FZ ((List.range n).filter p).toArray:=λi k hik hk=>by
 rw[gX,gX];have hk':k<((List.range n).filter p).length:=by simpa using hk
 have pw:((List.range n).filter p).Pairwise (· < ·):=(List.pairwise_lt_range).filter p;have:=AF.mp pw i k ⋯ hk' hik;rw[dE,dE,eA (show i<_ by lia),eA hk']
 exact this
theorem Qs{mask:Nat}(hc:jS mask=true)(hs:Array Int)(hn:hs.size<=mask)(finger moves:Nat)(led plain:Bool):∃t order,SetTable.laid mask finger moves led plain hs=!(t,order)/\t.mask=mask/\t.led=led/\t.plain=plain/\t.moves=moves/\order.toList.Perm (List.range hs.size)/\Tab t (λi=>hs.getD (order.getD i 0) 0) hs.size:=by
 obtain⟨owner,js,e1,L⟩:=xF hc hs hn;have aJ:js.length=hs.size:=by rw[L.len,i9]
 obtain⟨live,hlive⟩:∃live,live=(List.range (mask+1)).filterMap λj=>(owner.getD j none).map (j,·):=#[_,rfl]
 have jE:live.map (·.1)=(List.range (mask+1)).filter λj=>(owner.getD j none).isSome:=by rw[hlive];exact zK _
 have zM:∀j k,(j,k)∈live ↔ j<=mask/\js[k]?=!j:=λj k=>by
  rw[hlive,List.mem_filterMap];constructor
  .
   rintro⟨x,hx,e⟩;obtain⟨y,e2,e3⟩:=u8.mp e;cases e3;have hx':j<=mask:=by have:=lS.mp hx;lia
   exact#[hx',(L.own j k hx').mp e2]
  . rintro⟨h1,h2⟩;exact#[j,lS.mpr ⋯,by rw[(L.own j k h1).mpr h2];rfl]
 have memP:∀j,j∈live.map (·.1) ↔ j∈js:=λj=>by
  rw[eC];constructor
  . rintro⟨⟨x,k⟩,hx,rfl⟩;exact i8 ((zM x k).mp hx).2
  . intro hj;obtain⟨k,hk,e⟩:=v6 hj;exact#[(j,k),(zM j k).mpr #[L.le j hj,by rw[eA hk,e]],rfl]
 have Z9:(live.map (·.1)).Nodup:=by rw[jE];exact List.nodup_range.filter _
 have Ny:live.length=hs.size:=by have:=((An Z9 L.nd).mpr memP).length_eq;rw[d6,aJ]at this;exact this
 have ndO:(live.map (·.2)).Nodup:=by
  have h1:live.Pairwise λa b=>a.1≠b.1:=y3.mp Z9
  refine y3.mpr (h1.imp_of_mem λ{a b} ha hb iN z=>iN ?_)
  have q1:=((zM a.1 a.2).mp ha).2;have q2:=((zM b.1 b.2).mp hb).2;rw[z,q2]at q1;exact (l5 q1).symm
 have perm:(live.map (·.2)).Perm (List.range hs.size):=by
  refine (An ndO List.nodup_range).mpr λk=>?_
  rw[eC,lS];constructor
  . rintro⟨⟨j,x⟩,hx,rfl⟩;have:=(dS.mp ((zM j x).mp hx).2).1;lia
  .
   intro hk;have hk':k<js.length:=by lia
   exact#[(js[k],k),(zM _ _).mpr #[L.le _ (oP hk'),eA hk'],rfl]
 have Ko:FZ (live.map (·.1)).toArray:=by rw[jE];exact zL _
 refine#[{ mask,place:=(live.map (·.1)).toArray,dummies:=([].toArray),finger,led,moves,plain},(live.map (·.2)).toArray,?_,rfl,rfl,rfl,rfl,by simpa using perm,by simpa using Ny,Ko,rfl,λi hi=>?_]
 . unfold SetTable.laid;rw[e1];show some _=!_;rw[hlive]
 .
  have hi':i<live.length:=by lia
  have hm:live[i]∈live:=oP hi';obtain⟨m1,m2⟩:=(zM live[i].1 live[i].2).mp hm;have g1:(live.map (·.1)).toArray.getD i 0=live[i].1:=by rw[gX,dE,l6,eA hi'];rfl
  have g2:(live.map (·.2)).toArray.getD i 0=live[i].2:=by rw[gX,dE,l6,eA hi'];rfl
  have hk:live[i].2<hs.toList.length:=by have:=(dS.mp m2).1;rw[L.len]at this;exact this
  have hk2:live[i].2<hs.size:=by rw[i9]at hk;exact hk
  obtain⟨N,n1,n2⟩:=L.on live[i].2 hs.toList[live[i].2] (eA hk);have wm:=λh k=>qi (t:=bare mask) (t':={ mask,place:=(live.map (·.1)).toArray,dummies:=([].toArray),finger,led,moves,plain}) rfl h k
  have hh:hs.getD ((live.map (·.2)).toArray.getD i 0) 0=hs.toList[live[i].2]:=by rw[g2];simp[Array.getD,hk2]
  refine#[N,?_,λm hm'=>?_]
  . dsimp only;rw[hh,wm,g1];rw[m2]at n1;exact (l5 n1).symm
  .
   rw[hh,wm];refine (iU (t:={ mask,place:=(live.map (·.1)).toArray,dummies:=([].toArray),finger,led,moves,plain}) Ko rfl _).1.mpr ?_;obtain⟨x,hx,e⟩:=v6 ((memP _).mpr (n2 m hm'));refine#[x,by simpa using hx,?_]
   show (live.map (·.1)).toArray.getD x 0=_;rw[gX,dE,eA hx,e];rfl
end Sb
namespace Sb
open PySem
theorem Kq{t:SetTable}{j i:Nat}(h:t.slot j=.live i):i<t.place.size/\t.place.getD i 0=j:=by
 unfold SetTable.slot at h;dsimp only at h;split at h
 . rename_i e;symm;have e:=eq_of_beq e;obtain⟨hl,e⟩:=u7.mp e;exact#[hl,by simp[Array.getD,hl,e]]
 . split at h <;> symm
def qj(es:Array (Int×Value))(i:Nat):Int:=(es[i]?.map (·.1)).getD 0
section
variable{prog:Program}{w:World}{A:Around}{E:Value->Shared->Prop}{s:Shared}
theorem lR{a:Addr}{o:Obj}{es:Array (Int×Value)}{ep:Nat}{t:SetTable}{x:Value}{h:Int}{Gd:Nat->Bool}{N:Nat}{Q:SetFound->Shared->Prop}
  (ho:s.heap.get? a=!o) (hd:o.data=.set es ep t) (hf:t.fits es.size=true) (hw:t.gaveWay=false) (seen:t.led=false->∀(l:List Value) (Q':Bool->Shared->Prop),(∀y∈l,∃i:Nat,es[i]?=!(h,y))->Q' false s->wpAny (model prog w) A (searchCouldBeSeen x l) Q' E s) (T:Tab t (qj es) es.size)
  (hN:N<10 * SetTable.turns t.mask) (he:t.slot (way t h N).j=.empty) (hlive:∀m,m<N->uX t (way t h m).j)
  (eqs:∀i y,es[i]?=!(h,y)->(∃b,y=.ref b)/\∀Q':Bool->Shared->Prop,Q' (Gd i) s->wpAny (model prog w) A (eqBool y x) Q' E s)
  (q1:(∃i,i<es.size/\qj es i=h/\Gd i=true)->Q (.there none) s) (q2:(∀i,i<es.size->qj es i=h->Gd i=false)->Q (.free (way t h N).j false) s) :
  ∀(fuel k:Nat) (st:Option SetTable.Probe),st.getD (t.probeStart h)=way t h k->k<=N->N - k<fuel->(∀m,m<k->∀i,t.slot (way t h m).j=.live i->qj es i=h->Gd i=false)->
   wpAny (model prog w) A (setSearchFrom a x h true fuel st) Q E s
 | 0,k,st,_,_,hk,_=>absurd hk (mB _)
 |fuel+1,k,st,eZ,hkN,hk,hb=>by
  unfold setSearchFrom;refine aS (nN ho hd hf ?_);dsimp only;rw[hw];simp only[sK,↓reduceIte];rw[eZ];have hp:∀r,SetTable.probe.go t (qj es) h (10 * SetTable.turns t.mask) (way t h k)=r->t.probe (qj es) h (way t h k)=r:=λr e=>e
  rcases TF t (qj es) h (N - k) k (10 * SetTable.turns t.mask) (λm hm=>hlive (k+m) ⋯) (by rw[show k+(N - k)=N by lia];exact he) ⋯with ⟨m,i,g1,g2,g3,g4,g5⟩ |⟨g1,g2⟩
  .
   obtain⟨hi,_⟩:=Kq g2;rw[T.sz]at hi;obtain⟨hy,hye⟩:∃y,es[i]?=!(h,y):=by
    have e:es[i]?=some es[i]:=mP hi;have e2:qj es i=es[i].1:=by unfold qj;rw[e];rfl
    rw[g3]at e2;exact#[es[i].2,by rw[e,e2]]
   obtain⟨⟨b,rfl⟩,eq⟩:=eqs i hy hye;have pe:=hp _ g5;show wpAny (model prog w) A (do
    let some met:=t.probe (qj es) h (way t h k) |_
    _) Q E s
   rw[pe];dsimp only;cases hled:t.led with
   |true=>
    simp only[Bool.not_true,sK,↓reduceIte];rw[hye];dsimp only;refine aS (l7 (eq _ ?_));refine aS (nN ho hd hf ?_);dsimp only;have sm:t.sameMemory t.moves t.mask=!true:=by unfold SetTable.sameMemory;rw[xL];rfl
    cases hk2:Gd i with
    |true=>simp only[Bool.and_self,↓reduceIte];exact dA (q1 #[i,hi,g3,hk2])
    |false=>
     simp only[yB,sK,↓reduceIte];rw[sm];dsimp only;simp only[↓reduceIte];rw[g2];dsimp only;rw[hye];dsimp only;refine aS (wpAny_isSame_ref_self ?_);simp only[↓reduceIte];refine aS (dA ?_);refine lR ho hd hf hw seen T hN he hlive eqs q1 q2 fuel (k+m+1) _ rfl ⋯ ⋯ λm' hm' i' hs' hh=>?_
     rcases AM m' (k+m)with q |q |q
     .
      by_cases h1:m'<k
      . exact hb m' h1 i' hs' hh
      . exact absurd hh (g4 (m' - k) ⋯ i' (by rw[show k+(m' - k)=m' by lia];exact hs'))
     . rw[q,g2]at hs';cases hs';exact hk2
     . lia
   |false=>
    simp only[Bool.not_false,↓reduceIte];refine aS (seen hled _ _ (λy hy=>?_) ?_)
    . obtain⟨e,he',rfl⟩:=eC.mp hy;have he2:=CA.mp he';obtain⟨hm,hh⟩:=Array.mem_filter.mp he2;obtain⟨j,hj,ej⟩:=Array.getElem_of_mem hm;refine#[j,?_];rw[mP hj,ej];have:e.1=h:=eq_of_beq hh;rw[<- this]
    .
     simp only[sK,↓reduceIte];rw[hye];dsimp only;refine aS (l7 (eq _ ?_));refine aS (nN ho hd hf ?_);dsimp only;have sm:t.sameMemory t.moves t.mask=!true:=by unfold SetTable.sameMemory;rw[xL];rfl
     cases hk2:Gd i with
     |true=>simp only[Bool.and_self,↓reduceIte];exact dA (q1 #[i,hi,g3,hk2])
     |false=>
      simp only[yB,sK,↓reduceIte];rw[sm];dsimp only;simp only[↓reduceIte];rw[g2];dsimp only;rw[hye];dsimp only;refine aS (wpAny_isSame_ref_self ?_);simp only[↓reduceIte];refine aS (dA ?_);refine lR ho hd hf hw seen T hN he hlive eqs q1 q2 fuel (k+m+1) _ rfl ⋯ ⋯ λm' hm' i' hs' hh=>?_
      rcases AM m' (k+m)with q |q |q
      .
       by_cases h1:m'<k
       . exact hb m' h1 i' hs' hh
       . exact absurd hh (g4 (m' - k) ⋯ i' (by rw[show k+(m' - k)=m' by lia];exact hs'))
      . rw[q,g2]at hs';cases hs';exact hk2
      . lia
  .
   have pe:=hp _ g2;show wpAny (model prog w) A (do
    let some met:=t.probe (qj es) h (way t h k) |_
    _) Q E s
   rw[pe];dsimp only;rw[show k+(N - k)=N by lia]
   refine dA (q2 λi hi e=>?_)
   obtain⟨m,m1,m2⟩:=T.ahead hlive he hi e;by_cases hmk:m<k
   . exact hb m hmk i m2 e
   . exact absurd e (g1 (m - k) ⋯ i (by rw[show k+(m - k)=m by lia];exact m2))
end
end Sb
namespace Sb
open PySem
def masks:List Nat:=[7,31,127,511,2047]
theorem lT(h:m∈masks):jS m=true/\m % 2=1:=by
 unfold masks at h;simp only[eJ,nV,A9]at h;rcases h with rfl |rfl |rfl |rfl |rfl
 . exact#[cov7,rfl]
 . exact#[cov31,rfl]
 . exact#[WQ,rfl]
 . exact#[WR,rfl]
 . exact#[Qp,rfl]
structure SetT(o:Obj)(es:Array (Int×Value))(ep:Nat)(t:SetTable):Prop where
 ex:o.ExactSet
 data:o.data=.set es ep t
 tab:Tab t (qj es) es.size
 mq:t.mask∈masks
 room:es.size * 5<t.mask * 3
 plain:t.plain=true
theorem SetT.fits(S:SetT o es ep t):t.fits es.size=true:=by unfold SetTable.fits SetTable.fill;rw[S.tab.sz,S.tab.Hx];have:=S.room;simp only[eM,xL,true_and,l9];show es.size+0<=t.mask;lia
theorem SetT.toW{o:Obj}{es:Array (Int×Value)}{ep:Nat}{t:SetTable}(S:SetT o es ep t):qg o es ep t:=#[S.ex,S.data,S.fits,S.tab.sZ,S.plain]
theorem SetT.gave(S:SetT o es ep t):t.gaveWay=false:=by unfold SetTable.gaveWay;rw[(lT S.mq).2];rfl
theorem xG(hm:m∈masks)(h1:(n - 1) * 5<m * 3)(h2:m * 3<=n * 5)(hn:n<=1000):SetTable.sizeAbove (SetTable.grown n) - 1∈masks/\n * 5<(SetTable.sizeAbove (SetTable.grown n) - 1) * 3:=by
 unfold masks at hm;simp only[eJ,nV,A9]at hm;have hg:SetTable.grown n=n * 4:=by unfold SetTable.grown;rw[eP ⋯]
 rw[hg];rcases hm with rfl |rfl |rfl |rfl |rfl
 .
  obtain rfl:n=5:=by lia
  exact#[by decide,by decide]
 .
  obtain rfl:n=19:=by lia
  exact#[by decide,by decide]
 .
  obtain rfl:n=77:=by lia
  exact#[by decide,by decide]
 .
  obtain rfl:n=307:=by lia
  exact#[by decide,by decide]
 . lia
end Sb
namespace Sb
open PySem
theorem Kr(hp:p<=xs.size)(i:Nat):(SetTable.insertAt xs p x)[i]?=if i<p then xs[i]? else if i=p then some x else xs[i - 1]?:=by
 have e:(SetTable.insertAt xs p x)[i]?=(SetTable.insertAt xs p x).toList[i]?:=by simp
 have e2:(SetTable.insertAt xs p x).toList=xs.toList.take p++x::xs.toList.drop p:=by unfold SetTable.insertAt;simp[BM]
 rw[e,e2,List.getElem?_append];have hl:(xs.toList.take p).length=p:=by simp[hp]
 rw[hl];by_cases h1:i<p
 . simp[h1]
 .
  rw[eP h1,eP h1];by_cases h2:i=p
  . subst h2;simp
  .
   rw[eP h2,show i - p=(i - p - 1)+1 by lia,List.getElem?_cons_succ,List.getElem?_drop,show p+(i - p - 1)=i - 1 by lia]
   simp
theorem tF:(SetTable.insertAt xs p x).toList.Perm (xs.toList++[x]):=by
 have e2:(SetTable.insertAt xs p x).toList=xs.toList.take p++x::xs.toList.drop p:=by unfold SetTable.insertAt;simp[BM]
 rw[e2];have h1:(xs.toList.take p++x::xs.toList.drop p).Perm (x::(xs.toList.take p++xs.toList.drop p)):=List.perm_middle;rw[AY]at h1;exact h1.trans (List.perm_append_singleton x xs.toList).symm
theorem Qt(hp:p<=es.size):qj (SetTable.insertAt es p (h,x))=Qq (qj es) p h:=by
 funext i
 unfold qj Qq;rw[Kr hp];split
 . rfl
 .
  split
  . rfl
  . rfl
theorem Ge:(SetTable.insertAt es p x).size=es.size+1:=by have:=(tF (xs:=es) (p:=p) (x:=x)).length_eq;simpa using this
theorem Ks{es:Array (Int×Value)}:∀l:List Nat,(∀i∈l,i<es.size)->l.filterMap (es[·]?)=l.map λi=>es[i]?.getD (0,.none)
 | [],_=>rfl
 |i::l,h=>by
  have hi:=h i (b0 ..);have e:es[i]?=some es[i]:=mP hi;rw[vS,e,List.map_cons,e,Ks l λj hj=>h j (bP _ hj)]
  rfl
theorem Gf(es:Array (Int×Value)):(List.range es.size).map (λi=>es[i]?.getD (0,.none))=es.toList:=by
 apply AT
 . simp
 .
  intro i h1 h2;have hi:i<es.size:=by simpa using h2
  simp[hi]
theorem reo{es:Array (Int×Value)}{order:Array Nat}(hp:order.toList.Perm (List.range es.size)) :
  (order.filterMap (es[·]?)).size=es.size/\(order.filterMap (es[·]?)).toList.Perm es.toList/\∀i,i<es.size->(es.map (·.1)).getD (order.getD i 0) 0=qj (order.filterMap (es[·]?)) i:=by
 have hin:∀i∈order.toList,i<es.size:=λi hi=>lS.mp (hp.mem_iff.mp hi)
 have aJ:order.toList.length=es.size:=by rw[hp.length_eq,AL]
 have e:(order.filterMap (es[·]?)).toList=order.toList.map λi=>es[i]?.getD (0,.none):=by rw[Array.toList_filterMap];exact Ks _ hin
 have hpm:(order.filterMap (es[·]?)).toList.Perm es.toList:=by rw[e,<- Gf es];exact hp.map _
 refine#[by rw[<- i9,hpm.length_eq,i9],hpm,λi hi=>?_]
 have hio:i<order.toList.length:=by lia
 have ho:order.getD i 0=order.toList[i]:=by rw[getD_list,dE,eA hio];rfl
 have Qu:order.toList[i]<es.size:=hin _ (oP hio);unfold qj;rw[<- AA,e,l6,eA hio,ho,AJ];generalize order.toList[i]=k at Qu;simp[Array.getD,Qu]
theorem Tab.congr(T:Tab t hs n)(e:∀i,i<n->hs i=hs' i):Tab t hs' n:=
 #[T.sz,T.sZ,T.Hx,λi hi=>by rw[<- e i hi];exact T.on i hi]
end Sb
namespace Sb
open PySem
section
variable{prog:Program}{w:World}{A:Around}{E:Value->Shared->Prop}{s:Shared}
theorem Ku(a:Addr)(wanted:Nat):setRelay a wanted=(do
  let (es,_,t) <- setState a
  if SetTable.sizeAbove wanted > sizeLine then unsupported "set:memory"
  let (es,t) <- (do
   let some (t,order):=t.relaid (es.map (·.1)) wanted |unsupported "internal:set-table-without-room"
   let es':=order.filterMap (es[·]?)
   if es'.size != es.size then unsupported "internal:set-table-lost-an-element"
   pure (es',t))
  storeSet a es t):=rfl
theorem Kv
  (ho:s.heap.get? a=!o) (hd:o.data=.set es ep t) (hf:t.fits es.size=true) (hc:jS (SetTable.sizeAbove wanted - 1)=true) (hn:es.size<=SetTable.sizeAbove wanted - 1) (hz:SetTable.sizeAbove wanted<=sizeLine)
  (q:∀es' t',es'.size=es.size->es'.toList.Perm es.toList->t'.mask=SetTable.sizeAbove wanted - 1->t'.plain=t.plain->t'.led=t.led->Tab t' (qj es') es.size->Q () { s with heap:=s.heap.update a (Obj.putSet es' t')}) :
  wpAny (model prog w) A (setRelay a wanted) Q E s:=by
 rw[Ku];refine aS (nN ho hd hf ?_);dsimp only;rw[eP (Nat.not_lt.mpr hz)];obtain⟨t',order,e,hm,hl,jE,hmv,TJ,T⟩:=Qs hc (es.map (·.1)) (by simpa using hn) t.finger (t.movedTo (SetTable.sizeAbove wanted - 1)) t.led t.plain
 have e':t.relaid (es.map (·.1)) wanted=!(t',order):=e;rw[e'];dsimp only;rw[Array.size_map]at TJ T;obtain⟨r1,r2,r3⟩:=reo TJ;have r1':((order.filterMap (es[·]?)).size != es.size)=false:=by rw[r1];simp
 rw[r1'];simp only[sK,↓reduceIte];refine aS (dA ?_);dsimp only;refine wpAny_storeSet_of ho hd (q _ _ r1 r2 hm jE hl (T.congr r3)) ?_;rw[r1];lia
end
end Sb
namespace Sb
open PySem
section
variable{prog:Program}{w:World}{A:Around}{E:Value->Shared->Prop}{s:Shared}
theorem Qv{a:Addr}{o:Obj}{es:Array (Int×Value)}{ep:Nat}{t:SetTable}{x:Value}{h:Int}{Gd:Nat->Bool}{Q:Bool->Shared->Prop}
  (ho:s.heap.get? a=!o) (S:SetT o es ep t) (hx:x.scannable=false) (hn:es.size<1000)
  (seen:t.led=false->∀(l:List Value) (Q':Bool->Shared->Prop),(∀y∈l,∃i:Nat,es[i]?=!(h,y))->Q' false s->wpAny (model prog w) A (searchCouldBeSeen x l) Q' E s)
  (eqs:∀i y,es[i]?=!(h,y)->(∃b,y=.ref b)/\∀Q':Bool->Shared->Prop,Q' (Gd i) s->wpAny (model prog w) A (eqBool y x) Q' E s)
  (byv:∀Q':Bool->Shared->Prop,Q' true s->wpAny (model prog w) A (hashByValue 8 x) Q' E s)
  (q1:(∃i,i<es.size/\qj es i=h/\Gd i=true)->Q false s)
  (q2:(∀i,i<es.size->qj es i=h->Gd i=false)->∀h' es' vU t',Heap.SameBut a s.heap h'->h'.get? a=some { o with data:=.set es' vU t'}->SetT { o with data:=.set es' vU t'} es' vU t'->es'.toList.Perm (es.toList++[(h,x)])->t'.led=t.led->Q true { s with heap:=h'})
  (fuel:Nat):wpAny (model prog w) A (setAddHashedIn a x h (fuel+1)) Q E s:=by
 have hd:=S.data;have hf:=S.fits;obtain⟨N,hN,he,hlive⟩:=xD S.tab (lT S.mq).1 (by have:=S.room;lia) h
 unfold setAddHashedIn;refine aS (nN ho hd hf ?_);dsimp only;have hb:byScan x es=false:=by unfold byScan;rw[hx];rfl
 rw[hb];simp only[sK,↓reduceIte];unfold setSearch;have hm7:t.mask<=2047:=by have:=S.mq;unfold masks at this;simp only[eJ,nV,A9]at this;lia
 have hNb:N<100000:=by
  have:SetTable.turns t.mask<=5000:=by unfold SetTable.turns;lia
  lia
 refine aS (lR (Gd:=Gd) ho hd hf S.gave seen S.tab hN he hlive eqs (λhq=>?_) (λhq=>?_) 100000 0 none rfl ⋯ ⋯ λm hm=>absurd hm (mB _))
 . dsimp only;exact dA (q1 hq)
 .
  dsimp only;refine aS (nN ho hd hf ?_);dsimp only;have TP:=S.tab.put hlive he;have pi:=Km t S.tab.Hx (way t h N).j;have hpb:SetTable.below t.place (way t h N).j<=es.size:=by have:=(kL S.tab.sZ (way t h N).j).1;rw[S.tab.sz]at this;exact this
  rw[pi]at TP ⊢
  dsimp only at TP ⊢
  generalize SetTable.below t.place (way t h N).j=p at TP hpb ⊢
  rw[eR S.plain];refine aS (byv _ ?_);simp only[↓reduceIte];generalize ht1:({ t with place:=SetTable.insertAt t.place p (way t h N).j}:SetTable)=t1 at TP ⊢
  have hm1:t1.mask=t.mask:=by rw[<- ht1]
  have hp1:t1.plain=true:=by rw[<- ht1];exact S.plain
  have hl1:t1.led=t.led:=by rw[<- ht1]
  have hs1:(SetTable.insertAt es p (h,x)).size=es.size+1:=Ge;have T1:Tab t1 (qj (SetTable.insertAt es p (h,x))) (SetTable.insertAt es p (h,x)).size:=by rw[hs1,Qt hpb];exact TP
  have hf1:t1.fits (SetTable.insertAt es p (h,x)).size=true:=by have:=S.room;unfold SetTable.fits SetTable.fill;rw[T1.sz,T1.Hx,hs1,hm1];simp only[eM,xL,true_and,l9];show es.size+1+0<=t.mask;lia
  generalize hE1:SetTable.insertAt es p (h,x)=es1 at hs1 T1 hf1 ⊢
  have hpm:es1.toList.Perm (es.toList++[(h,x)]):=by rw[<- hE1];exact tF
  have hz1:es1.size<=sizeLine:=by unfold sizeLine;lia
  refine aS (wpAny_storeSet_of ho hd ?_ hz1);have pJ:(s.heap.update a (Obj.putSet es1 t1)).get? a=some { o with data:=.set es1 (ep+1) t1}:=by
   have:=n4 (Obj.putSet es1 t1) ho (by rw[putSet_of es1 t1 hd];rfl)
   rw[putSet_of es1 t1 hd]at this;exact this
  have sb1:=v4 s.heap a (Obj.putSet es1 t1);have hfill:t1.fill=es1.size:=by unfold SetTable.fill;rw[T1.sz,T1.Hx];rfl
  by_cases tf:t1.tooFull=true
  .
   rw[tf];simp only[Bool.not_false,Bool.and_self,↓reduceIte];have tf':t.mask * 3<=(es.size+1) * 5:=by unfold SetTable.tooFull at tf;rw[hfill,hm1,hs1]at tf;exact i4 tf
   obtain⟨g1,g2⟩:=xG S.mq (n:=es.size+1) (by have:=S.room;lia) tf' ⋯
   refine aS (Kv pJ rfl hf1 (lT g1).1 (by rw[hs1];lia) ?_ λes' t' z1 z2 z3 z4 z5 z6=>?_)
   .
    have:SetTable.sizeAbove (SetTable.grown (es.size+1)) - 1<=2047:=by unfold masks at g1;simp only[eJ,nV,A9]at g1;lia
    unfold sizeLine;lia
   .
    have hg2:((s.heap.update a (Obj.putSet es1 t1)).update a (Obj.putSet es' t')).get? a=some { o with data:=.set es' (ep+1+1) t'}:=by
     have:=n4 (Obj.putSet es' t') pJ (by rw[putSet_of es' t' rfl];rfl)
     rw[putSet_of es' t' rfl]at this;exact this
    refine dA (q2 hq _ es' (ep+1+1) t' (sb1.trans (v4 _ a _)) hg2 #[S.ex,rfl,by rw[z1];exact z6,by rw[z3];exact g1,by rw[z1,z3,hs1];exact g2,by rw[z4];exact hp1] (z2.trans hpm) (z5.trans hl1))
  .
   have tf0:t1.tooFull=false:=by simpa using tf
   rw[tf0];simp only[Bool.not_false,yB,sK,↓reduceIte];refine dA (q2 hq _ es1 (ep+1) t1 sb1 pJ #[S.ex,rfl,T1,by rw[hm1];exact S.mq,?_,hp1] hpm hl1)
   unfold SetTable.tooFull at tf0;rw[hfill]at tf0;have:=of_decide_eq_false tf0;lia
end
end Sb
namespace Nk
open PySem
section
variable{prog:Program}{w:World}{A:Around}{E:Value->Shared->Prop}{s:Shared}
theorem Qw(n:Nat)(i:Int)(t:Tok):hashByValue n (.int i t)=pure true:=by cases n <;> first |rfl | (unfold hashByValue;rfl)
theorem WT(k:Kt):∀{n:Nat}{a:Addr}{Q:Bool->Shared->Prop},dep k<n->m9 s.heap k a->Q true s->wpAny (model prog w) A (hashByValue n (.ref a)) Q E s:=by
 refine (uV (P:=λk=>∀{n:Nat}{a:Addr}{Q:Bool->Shared->Prop},dep k<n->m9 s.heap k a->Q true s->wpAny (model prog w) A (hashByValue n (.ref a)) Q E s) (λk ek=>?_) k).1
 intro n a Q hn hr h;have hT:=hr.typeIs;obtain⟨o,items,m,ho,_,hd,hi⟩:=hr;cases n with
 |zero=>exact absurd hn (mB _)
 |succ n=>
 refine aS (AW hT F.slot_tuple_hash.lookup ?_);refine aS (yY ho hd ?_);refine aS ?_;rw[<- BF];refine Ap _ (λaD r s'=>r.1=none/\s'=s/\∃l,El (λk=>∀{n:Nat}{a:Addr}{Q:Bool->Shared->Prop},dep k<n->m9 s.heap k a->Q true s->wpAny (model prog w) A (hashByValue n (.ref a)) Q E s) l/\dep l<=n/\IsT s.heap l aD) _ ?_ ?_ _ _ #[rfl,rfl,k,ek,by lia,hi]
 .
  rintro v aD r s' ⟨hr,rfl,l,el,dl,hl⟩;cases l with
  |nil=>cases (show v::aD=[]from hl)
  |ci i q=>obtain⟨tk,_,e,hr1⟩:=hl;cases e;rw[Qw];refine aS (dA ?_);exact dA #[rfl,rfl,q,el,dl,hr1]
  |ct u q=>
   obtain⟨ad,_,e,hu1,hr1⟩:=hl;cases e;have du:dep u+1<=n/\dep q<=n:=by have:max (dep u+1) (dep q)<=n:=dl;lia
   refine aS (el.1 ⋯ hu1 ?_);exact dA #[rfl,rfl,q,el.2,du.2,hr1]
 . rintro⟨r1,r2⟩ s' ⟨hr,rfl,_⟩;subst hr;exact dA h
theorem Kw(n:Nat)(i:Int)(t:Tok):ofAClassStatement n (.int i t)=pure false:=by
 first |rfl |simp[ofAClassStatement] | (unfold ofAClassStatement;rfl)
theorem CJ(k:Kt):∀{n:Nat}{a:Addr}{Q:Bool->Shared->Prop},dep k<n->m9 s.heap k a->Q false s->wpAny (model prog w) A (ofAClassStatement n (.ref a)) Q E s:=by
 refine (uV (P:=λk=>∀{n:Nat}{a:Addr}{Q:Bool->Shared->Prop},dep k<n->m9 s.heap k a->Q false s->wpAny (model prog w) A (ofAClassStatement n (.ref a)) Q E s) (λk ek=>?_) k).1
 intro n a Q hn hr h;have hT:=hr.typeIs;obtain⟨o,items,m,ho,_,hd,hi⟩:=hr;cases n with
 |zero=>exact absurd hn (mB _)
 |succ n=>
 unfold ofAClassStatement;refine aS (BY hT ?_);refine aS ?_;refine dA ?_;refine aS (yY ho hd ?_);refine aS ?_;rw[<- BF];refine Ap _ (λaD r s'=>r.1=none/\s'=s/\∃l,El (λk=>∀{n:Nat}{a:Addr}{Q:Bool->Shared->Prop},dep k<n->m9 s.heap k a->Q false s->wpAny (model prog w) A (ofAClassStatement n (.ref a)) Q E s) l/\dep l<=n/\IsT s.heap l aD) _ ?_ ?_ _ _ #[rfl,rfl,k,ek,by lia,hi]
 .
  rintro v aD r s' ⟨hr,rfl,l,el,dl,hl⟩;cases l with
  |nil=>cases (show v::aD=[]from hl)
  |ci i q=>obtain⟨tk,_,e,hr1⟩:=hl;cases e;rw[Kw];refine aS (dA ?_);exact dA #[rfl,rfl,q,el,dl,hr1]
  |ct u q=>
   obtain⟨ad,_,e,hu1,hr1⟩:=hl;cases e;have du:dep u+1<=n/\dep q<=n:=by have:max (dep u+1) (dep q)<=n:=dl;lia
   refine aS (el.1 ⋯ hu1 ?_);exact dA #[rfl,rfl,q,el.2,du.2,hr1]
 . rintro⟨r1,r2⟩ s' ⟨hr,rfl,_⟩;subst hr;exact dA h
theorem Qx{k:Pn}{a:Addr}{l:List Value}{Q:Bool->Shared->Prop}(hk:m9 s.heap k.1 a)(hl:∀y∈l,∃(b:Addr) (k':Pn),y=.ref b/\m9 s.heap k'.1 b)(h:Q false s):wpAny (model prog w) A (searchCouldBeSeen (.ref a) l) Q E s:=by
 refine aS ?_;refine Ap _ (λaD r s'=>r.1=none/\s'=s/\∀y∈aD,∃(b:Addr) (k':Pn),y=.ref b/\m9 s.heap k'.1 b) _ ?_ ?_ _ _ #[rfl,rfl,hl]
 .
  rintro v aD r s' ⟨hr,rfl,hall⟩;obtain⟨b,k',rfl,hb⟩:=hall v b0;have TL:=λu hu'=>hall u (bP _ hu')
  dsimp only;by_cases e:(a==b)=true
  . rw[e];exact dA #[rfl,rfl,TL]
  .
   have e0:(a==b)=false:=by simpa using e
   rw[e0];have c:carriedByValue (.ref a)=false:=rfl;rw[c];refine aS (xx k.1 ⋯ hk ?_);refine aS (xx k'.1 ⋯ hb ?_);refine aS (CJ k.1 ⋯ hk ?_);refine aS (CJ k'.1 ⋯ hb ?_);exact dA #[rfl,rfl,TL]
 . rintro⟨r1,r2⟩ s' ⟨hr,rfl,_⟩;subst hr;exact dA h
end
end Nk
namespace Sb
open PySem
end Sb
namespace Sb
open PySem
section
variable{prog:Program}{w:World}{A:Around}{E:Value->Shared->Prop}{s:Shared}{K:Type} [DecidableEq K] (knd:KeyKind prog w K) (B:List K->Addr->Prop)
def Shows(h:Heap)(k:List K)(e:Int×Value):Prop:=∃b,B k b/\e=(tupleKeyHash knd k,.ref b)/\IsTupleKey knd h k b
def N9(h:Heap)(a:Addr)(ks:List (List K)):Prop:=
 ∃o es ep t,h.get? a=!o/\SetT o es ep t/\(w.params.followText "set-order"=false->t.led=true)/\ks.Nodup/\∃l:List (Int×Value),es.toList.Perm l/\ks.length=l.length/\∀(i:Nat) k e,ks[i]?=!k->l[i]?=!e->Shows knd B h k e
variable{knd B}
end
end Sb
namespace Sb
open PySem
theorem CK{α:Type}:∀(l:List α) (i:Nat) (h:i<l.length),(l[i]::l.eraseIdx i).Perm l
 | [],_,h=>absurd h (mB _)
 |a::l,0,_=>.refl _
 |a::l,i+1,h=>by
  have h':i<l.length:=by simpa using h
  have:((a::l)[i+1]::(a::l).eraseIdx (i+1))=l[i]::a::l.eraseIdx i:=rfl;exact (List.Perm.swap a l[i] _).trans (.cons a (CK l i h'))
theorem CN{α:Type}(next:Nat->Nat):∀(n k:Nat) (l:List α) (out:Array α),l.length=n->(pickOrder.go next n k l out).toList.Perm (out.toList++l)
 | 0,k,l,out,h=>by
  cases l with
  |nil=>simp[pickOrder.go]
  |cons _ _=>simp at h
 |n+1,k,l,out,h=>by
  have hl:next k % l.length<l.length:=Nat.mod_lt _ ⋯;unfold pickOrder.go;rw[eA hl];refine (CN next n (k+1) _ _ (by rw[List.length_eraseIdx_of_lt hl];lia)).trans ?_
  rw[Array.toList_push,rV];refine List.Perm.append_left _ ?_;exact CK _ _ hl
theorem Gg{α:Type}(next:Nat->Nat)(xs:Array α):(pickOrder next xs).toList.Perm xs.toList:=by have:=CN next xs.size 0 xs.toList ([].toArray) ⋯;simpa [pickOrder]using this
section
variable{prog:Program}{w:World}{A:Around}{E:Value->Shared->Prop}{s:Shared}
def fE(t:SetTable):Nat->Nat
 | 0=>0
 |i+1=>t.place.getD i 0+1
theorem below_at{t:SetTable}(r:FZ t.place){n:Nat}(hz:t.place.size=n){i:Nat}(hi:i<=n):SetTable.below t.place (fE t i)=i:=by
 obtain⟨b1,b2,b3⟩:=kL r (fE t i);rcases AM (SetTable.below t.place (fE t i)) i with h |h |h
 .
  cases i with
  |zero=>lia
  |succ m=>have:=b3 m ⋯ ⋯;simp only[fE]at this;lia
 . exact h
 .
  have:=b2 i h;cases i with
  |zero=>simp only[fE]at this;lia
  |succ m=>have r:=r m (m+1) ⋯ ⋯;simp only[fE]at this;lia
theorem Qy(a:Addr)(slot given ep0:Nat):setNext a slot given ep0=(do
  let (es,epoch,t) <- setState a
  if <- setsByText then
   if epoch != ep0 then unsupported "set_iterator.__next__:elements-changed"
   return ((<- setWalk a)[given]?).map λe=>(e.2,slot)
  if (not t.plain)&&es.size > 1 then unsupported "set_iterator.__next__:the-table-is-plain-no-more"
  (do if (not t.led)&&(not es.isEmpty) then unsupported "set:maker-not-led":Sem Unit)
  let i:=SetTable.below t.place slot
  return match es[i]?,t.place[i]? with
   |!(_,x),!j=>!(x,j+1)
   |_,_=>none):=rfl
theorem Ky(hw:w.params.followText "set-order"=false)
  (ho:s.heap.get? a=!o) (S:qg o es ep t) (ld:t.led=true) (hi:i<=es.size) (q:Q (es[i]?.map λe=>(e.2,fE t (i+1))) s):wpAny (model prog w) A (setNext a (fE t i) g ep0) Q E s:=by
 rw[Qy];refine aS (nN ho S.data S.fits ?_);refine aS (aS (xI (dA ?_)));dsimp only[model];rw[hw,S.plain,ld];rw[below_at S.sZ S.sz hi];have e:(match es[i]?,t.place[i]? with
   |!(_,x),!j=>!(x,j+1)
   |_,_=>none)=es[i]?.map λe=>(e.2,fE t (i+1)):=by
  by_cases h:i<es.size
  .
   have h2:i<t.place.size:=by rw[S.sz];exact h
   rw[mP h];simp[fE,h2]
  . rw[Array.getElem?_eq_none ⋯];rfl
 first
  |exact aS (dA (dA (by rw[e];exact q)))
  |exact dA (by rw[e];exact q)
theorem Gh(hw:w.params.followText "set-order"=true)
  (ho:s.heap.get? a=!o) (S:qg o es ep t) (q:Q ((pickOrder (w.params.setOrder a ep) es)[g]?.map λe=>(e.2,i)) s):wpAny (model prog w) A (setNext a i g ep) Q E s:=by
 refine aS (nN ho S.data S.fits ?_);refine aS (aS (xI (dA ?_)));dsimp only[model];rw[hw];simp only[bne_self_eq_false];refine aS (aS (nN ho S.data S.fits ?_));refine aS (aS (xI (dA ?_)));rw[hw];exact aS (xI (dA (dA q)))
end
end Sb
namespace Sb
open PySem
section
variable{prog:Program}{w:World}{A:Around}{E:Value->Shared->Prop}{s:Shared}{K:Type} [DecidableEq K] {knd:KeyKind prog w K}{B:List K->Addr->Prop}
theorem Gi(led:Bool)(hs:Nat->Int):Tab (.fresh 0 0 led) hs 0:=
 #[rfl,λi k _ hk=>absurd hk (mB _),rfl,λi hi=>absurd hi (mB _)]
end
end Sb
namespace Sb
open PySem
theorem Kz:Manifest.owners.lookup (String.ofList ['r','o','t','a','r','e','t','i','_','t','e','s'].reverse)=!Manifest.sig_set_iterator:=by kernel_rfl
theorem cu:Slot "set_iterator" "__next__" "set_iterator.__next__" :=
 .of (owner:= "set_iterator") (n:= "__next__") (by rw[typeLookup_type];kernel_rfl) (by decide +kernel) (by decide +kernel) (by decide +kernel)
  (by first |exact .inl (by decide +kernel) |exact .inr (by decide +kernel)) (by rw[isSubtype_type];kernel_rfl)
theorem jG:entryFor table "set_iterator.__next__"=some Builtin.«set_iterator.__next__»:=entryFor_of_tree (by kernel_rfl)
theorem kN(a:Value):argsOk "set_iterator.__next__" #[[a],[]]:=by unfold argsOk;rw[signature?_of (n:=['_','_','t','x','e','n','_','_']) (by kernel_rfl) Kz];kernel_rfl
theorem kO:Slot "set_iterator" "__iter__" "set_iterator.__iter__" :=
 .of (owner:= "set_iterator") (n:= "__iter__") (by rw[typeLookup_type];kernel_rfl) (by decide +kernel) (by decide +kernel) (by decide +kernel)
  (by first |exact .inl (by decide +kernel) |exact .inr (by decide +kernel)) (by rw[isSubtype_type];kernel_rfl)
theorem rQ:entryFor table "set_iterator.__iter__"=some Builtin.«dict_keyiterator.__iter__»:=
 entryFor_alias (id':= "dict_keyiterator.__iter__") (by kernel_rfl) (by first |rfl |decide +kernel | (unfold String.splitOn;simp +decide [String.splitOnAux])) (by decide +kernel) (by kernel_rfl)
theorem uZ(a:Value):argsOk "set_iterator.__iter__" #[[a],[]]:=by unfold argsOk;rw[signature?_of (n:=['_','_','r','e','t','i','_','_']) (by kernel_rfl) Kz];kernel_rfl
theorem qk:entryFor table "set.__iter__"=some Builtin.«frozenset.__iter__»:=
 entryFor_alias (id':= "frozenset.__iter__") (by kernel_rfl) (by first |rfl |decide +kernel | (unfold String.splitOn;simp +decide [String.splitOnAux])) (by decide +kernel) (by kernel_rfl)
section
variable{prog:Program}{w:World}{A:Around}{E:Value->Shared->Prop}{s:Shared}
def zN(h:Heap)(I a:Addr)(sl i n ep:Nat):Prop:=
 ∃o,h.get? I=!o/\o.cls=.type "set_iterator" /\o.data=.fields ([.int sl 0,.int i 0,.ref a,.int n 0,.int ep 0].toArray)
theorem zN.typeIs(x:zN s.heap I a sl i n ep):s.TypeIs (.ref I) "set_iterator" :=let #[o,ho,hc,_]:=x;#[o,ho,hc]
def iF(w:World)(a:Addr)(ep:Nat)(es:Array (Int×Value)):Array (Int×Value):=if w.params.followText "set-order"=true then pickOrder (w.params.setOrder a ep) es else es
def iW(w:World)(t:SetTable)(i:Nat):Nat:=if w.params.followText "set-order"=true then 0 else fE t i
theorem ql(w:World)(a:Addr)(ep:Nat)(es:Array (Int×Value)):(iF w a ep es).toList.Perm es.toList:=by
 unfold iF;split
 . exact Gg _ _
 . exact .refl _
theorem iB(w:World)(a:Addr)(ep:Nat)(es:Array (Int×Value)):(iF w a ep es).size=es.size:=by have:=(ql w a ep es).length_eq;simpa using this
theorem qm
  (ho:s.heap.get? a=!o) (S:qg o es ep t) (ld:w.params.followText "set-order"=false->t.led=true) (hi:i<=es.size) (q:Q ((iF w a ep es)[i]?.map λe=>(e.2,iW w t (i+1))) s):wpAny (model prog w) A (setNext a (iW w t i) i ep) Q E s:=by
 unfold iF iW at *;cases hw:w.params.followText "set-order" with
 |true=>rw[hw]at q;exact Gh hw ho S q
 |false=>rw[hw]at q;exact Ky hw ho S (ld hw) hi q
theorem next_item(hit:zN s.heap I a (iW w t i) i es.size ep)
  (hoa:s.heap.get? a=!o) (S:qg o es ep t) (ld:w.params.followText "set-order"=false->t.led=true) (hx:(iF w a ep es)[i]?=!e)
  (hQ:∀h',zN h' I a (iW w t (i+1)) (i+1) es.size ep->Heap.SameBut I s.heap h'->Q (!e.2) { s with heap:=h'}) :
  wpAny (model prog w) A (pyNext (.ref I)) Q E s:=by
 obtain⟨oi,Qu,hc,hd⟩:=id hit;have hlt:i<es.size:=by rw[<- iB w a ep es];exact (u7.mp hx).1
 refine aS (wpAny_attempt (t7 hit.typeIs cu
  (o3 cu hit.typeIs jG ?_ (kN _))))
 refine aS (dA ?_);refine aS (wpAny_fieldsOf Qu hd ?_);refine aS (aS (nN hoa S.data S.fits (dA ?_)));rw[eP ⋯];simp only[mE];refine aS (qm hoa S ld (CL hlt) ?_);rw[hx];refine aS (BS Qu hd ⋯ ?_);have Hv:=n4 (Obj.mapFields (·.setIfInBounds 0 (rawInt (iW w t (i+1):Nat)))) Qu (Obj.isFreed_of_fields (AD hd _));have hd1:=AD hd (·.setIfInBounds 0 (rawInt (iW w t (i+1):Nat)));refine aS (BS Hv hd1 ⋯ (dA #[_,rfl,dA (hQ _ ?_ ((v4 ..).trans (v4 ..)))]));exact#[_,n4 _ Hv (Obj.isFreed_of_fields (AD hd1 _)),(Obj.cls_mapFields ..).trans ((Obj.cls_mapFields ..).trans hc),by
  rw[AD hd1];simp[rawInt]]
theorem next_end(hh:A.handled=none)(hit:zN s.heap I a (iW w t es.size) es.size es.size ep)
  (hoa:s.heap.get? a=!o) (S:qg o es ep t) (ld:w.params.followText "set-order"=false->t.led=true)
  (hQ:∀h',Heap.ExtBut I s.heap h'->Q none { s with heap:=h'}) :
  wpAny (model prog w) A (pyNext (.ref I)) Q E s:=by
 obtain⟨oi,Qu,hc,hd⟩:=id hit;have hx:(iF w a ep es)[es.size]?=none:=by rw[<- iB w a ep es];simp
 refine aS (wpAny_attempt (t7 hit.typeIs cu
  (o3 cu hit.typeIs jG ?_ (kN _))))
 refine aS (dA ?_);refine aS (wpAny_fieldsOf Qu hd ?_);refine aS (aS (nN hoa S.data S.fits (dA ?_)));rw[eP ⋯];simp only[mE];refine aS (qm hoa S ld (eD _) ?_);rw[hx];refine aS (BS Qu hd ⋯ ?_);refine aS ?_;refine aS (nE ?_ (by size_fits))
 refine aS (CH (by first |rfl | (simp only[firstArgMember];rfl)) ?_)
 refine nE ?_ (by size_fits)
 refine aS (wpAny_handled ?_)
 first |rw[show A.in1.handled=none from hh] |rw[hh]
 refine aS (dA (wpAny_throw ?_));refine aS (wpAny_isInstance #[_,eQ _ rfl,rfl] isSubtype_stop ?_);exact dA (hQ _ (((v4 ..).extBut.push _).push _))
theorem Gj(hit:zN s.heap I a sl i n ep)(h:Q (.ref I) s):wpAny (model prog w) A (pyIter (.ref I)) Q E s:=by refine wpAny_pyIter_slot hit.typeIs kO (o3 kO hit.typeIs rQ ?_ (uZ _));exact dA #[_,rfl, "set_iterator",_,hit.typeIs,cu.lookup,h]
theorem Gk{o:Obj}{es:Array (Int×Value)}{ep:Nat}{t:SetTable}(hh:A.handled=none)(I a:Addr)(iN:a≠I)(S:qg o es ep t)(ld:w.params.followText "set-order"=false->t.led=true) :
  Walks prog w A I [I,a] [I] es.size (λi v=>∃e,(iF w a ep es)[i]?=!e/\e.2=v) (λi h=>zN h I a (iW w t i) i es.size ep/\h.get? a=!o) where
 sub:=λb hb=>by simp at hb;simp[hb]
 frame:=λ_ _ _ st hk=>#[let #[o,ho,r]:=st.1;#[o,hk I ⋯ o ho,r],hk a ⋯ _ st.2]
 item:=λi s Q E hi st hQ=>by
  have hi':i<(iF w a ep es).size:=by rw[iB];exact hi
  refine next_item st.1 st.2 S ld (mP hi') λh' Wv hs'=>?_
  exact hQ _ h' s.toks #[_,mP hi',rfl] #[Wv,hs'.extBut a o iN st.2] λb o hb e=>hs'.extBut b o (λh=>hb (by simp[h])) e
 done:=λs Q E st hQ=>next_end hh st.1 st.2 S ld λh' he'=>hQ h' s.toks λb o hb e=>he' b o (λh=>hb (by simp[h])) e
 self:=λ_ _ _ _ st hQ=>Gj st.1 hQ
theorem KC(a:Addr):setDrawn a=(do
  let (es,_,t) <- setState a
  let WW <- setsByText
  return (not WW)&&((not t.plain)&&es.size > 1)):=rfl
theorem KD{a:Addr}{o:Obj}{es:Array (Int×Value)}{ep:Nat}{t:SetTable}{Q:Value->Shared->Prop}(ho:s.heap.get? a=!o)(S:qg o es ep t)
  (hQ:Q (.ref s⁻¹) { s with heap:=s.heap.push { cls:=.type "set_iterator",data:=.fields ([.int 0 0,.int 0 0,.ref a,.int es.size 0,.int ep 0].toArray)}}) :
  wpAny (model prog w) A (pyIter (.ref a)) Q E s:=by
 have hT:s.TypeIs (.ref a) "set" :=#[_,ho,S.ex.1];refine wpAny_pyIter_slot hT F.slot_set_iter (o3 F.slot_set_iter hT qk ?_ (F.args_set_iter_1 _));refine aS (dA ?_);rw[KC];refine aS (aS (aS (nN ho S.data S.fits (dA (dA ?_)))));refine aS (aS (nN ho S.data S.fits (aS (aS (xI (dA (dA ?_)))))));rw[S.plain];simp only[Bool.not_true,Bool.false_and,yB];refine aS (dA ?_);refine aS (aS (nN ho S.data S.fits (dA ?_)));refine aS (nE (dA #[_,rfl, "set_iterator",_,#[_,eQ _ rfl,rfl],cu.lookup,?_]));exact hQ
end
end Sb
namespace Sb
open PySem PySem.W PyProof.Rows
section
variable{prog:Program}{w:World}{A:Around}{E:Value->Shared->Prop}{s:Shared}
theorem KH(hT:s.TypeIs (.ref a) "set")(h:Q false s):wpAny (model prog w) A (Builtin.List.listLengthHint (.ref a)) Q E s:=by
 refine aS (AW hT F.slot_set_len.lookup ?_);have e:splitId "set.__len__"=!("set", "__len__"):=by decide +kernel
 dsimp only;rw[e];refine aS (wpAny_isInstance hT sub_set_self ?_);simp only[Bool.not_true,sK,↓reduceIte];exact aS (BY hT (dA h))
theorem xH{a:Addr}{o:Obj}{es:Array (Int×Value)}{ep:Nat}{t:SetTable}{Q:List Value->Shared->Prop}(hh:A.in1.handled=none)(ho:s.heap.get? a=!o)(S:qg o es ep t)(ld:w.params.followText "set-order"=false->t.led=true)(hn:es.size<=sizeLine)
  (hQ:∀s',Moved [] (λa b=>b=a) s s'->Q ((iF w a ep es).toList.map (·.2)) s'):wpAny (model prog w) A (collect (.ref a)) Q E s:=by
 have hlt:=fN ho;have hSa:=Nat.ne_of_gt hlt;refine aS (wpAny_runValue (AZ F.entry_proto_collect ?_));refine aS (nE ?_);refine dA #[A6 F.plain_list_iadd _,AZ F.entry_list_iadd ?_];have Hv:(s.heap.push { cls:=.type "list",data:=.seq ([]:List Value).toArray}).get? a=!o:=dC _ ho;show wpAny _ A.in1 (Builtin.List.listExtendWith (.ref s⁻¹) (.ref a) (.ref s⁻¹)) _ _ _;refine aS (BY #[_,Hv,S.ex.1] ?_);have h1:Builtin.List.listSameRef (.ref s⁻¹) (.ref a)=false:=by simp[Builtin.List.listSameRef,hSa]
 have h2:(Value.type "set" == Value.type "list")=false:=by decide
 have h3:(Value.type "set" == Value.type "tuple")=false:=by decide
 simp only[h1];refine aS (KD Hv S ?_);have hz:(s.heap.push { cls:=.type "list",data:=.seq ([]:List Value).toArray}).objs.size=s⁻¹+1:=tS ..;rw[hz];refine aS (l7 ?_);refine KH #[_,dC _ Hv,S.ex.1] ?_;refine aS (A5 ?_);generalize hH:((s.heap.push { cls:=.type "list",data:=.seq ([]:List Value).toArray}).push { cls:=.type "set_iterator",data:=.fields ([.int 0 0,.int 0 0,.ref a,.int es.size 0,.int ep 0].toArray)})=h0;have hS₁:h0.get? s⁻¹=some { cls:=.type "list",data:=.seq ([]:List Value).toArray}:=by rw[<- hH];exact dC _ (eQ _ rfl)
 have hI₁:h0.get? (s⁻¹+1)=some { cls:=.type "set_iterator",data:=.fields ([.int 0 0,.int 0 0,.ref a,.int es.size 0,.int ep 0].toArray)}:=by rw[<- hH,<- hz];exact eQ _ rfl
 have old:∀b o,s.heap.get? b=!o->h0.get? b=!o:=λb o e=>by
  rw[<- hH];exact dC _ (dC _ e)
 refine aS ?_;refine aS (BE hS₁ rfl ?_);have hS₂:=n4 (Obj.mapSeq (·.push Value.none)) hS₁ rfl;refine BE hS₂ rfl ?_;have hS₃:=n4 (Obj.mapSeq (·.pop)) hS₂ rfl;have Qz:∀b o,b≠s⁻¹->h0.get? b=!o->
   ((h0.update s⁻¹ (Obj.mapSeq (·.push Value.none))).update s⁻¹ (Obj.mapSeq (·.pop))).get? b=!o:=
  λb o hb e=>(mM _ _ (wP hb)).trans ((mM _ _ (wP hb)).trans e)
 have W:=(Gk (prog:=prog) hh (s⁻¹+1) a ⋯ S ld).toS;have sl0:iW w t 0=0:=by unfold iW;split <;> rfl
 refine dA #[A6 F.plain_extend_loop _,codeAny_extend_loopS W hn _ (by simp;lia) _ es.size 0 _ _ _ rfl (o4 _) #[#[_,Qz _ _ ⋯ hI₁,rfl,by rw[sl0];rfl],Qz _ _ ⋯ (old _ _ ho)] hS₃ (ItemsOf.nil _) λs' acc' c' hm hS' hacc=>?_]
 refine aS (wpAny_load hS' ?_);have e:acc'.toList=(iF w a ep es).toList.map (·.2):=by
  obtain⟨z1,z2⟩:=hacc;apply List.ext_getElem?;intro i;by_cases hi:i<acc'.size
  . obtain⟨e,e1,e2⟩:=z2 i acc'[i] (mP hi);rw[AA,mP hi,l6,AA,e1,<- e2];rfl
  . rw[tP (by simpa using hi),tP (by rw[d6,i9,iB];lia)]
 refine dA ?_;rw[e];refine hQ s' #[λb o _ eb=>hm.heap b o ?_ (Qz b o ?_ (old b o eb)),hm.gens,hm.drawn,hm.os,hm.toks]
 . have:=fN eb;simp only[eJ,not_or];exact#[by lia,by lia]
 . have:=fN eb;lia
theorem Gm{v:Value}{vs:List Value}{R:Shared->Prop}{Q:Value->Shared->Prop}(hz:vs.length<=sizeLine)(go:wpAny (model prog w) A.in1 (collect v) (λvs' s'=>vs'=vs/\R s') E s)
  (h:∀s',R s'->wpAny (model prog w) A.in1.in1 (Builtin.«list.sort» #[[.ref s'⁻¹],[]]) (λf s''=>f=.done (.ret .none)/\Q (.ref s'⁻¹) s'') E { s' with heap:=s'.heap.push (seqObj "list" vs.toArray 0)}) :
  wpAny (model prog w) A (call (.builtin "sorted") [v]) Q E s:=by
 refine Calls.call_function_entry kind_sorted plain_sorted entry_sorted (args_sorted1 _) ?_;refine aS (dA (aS (mI go ?_ λ_ _ z=>z)))
 rintro _ s' ⟨rfl,hr⟩;refine aS (wpAny_newList ?_ hz);refine aS (l7 (o3 slot_list_sort #[_,eQ _ rfl,rfl] entry_list_sort (mI (h s' hr) (λf s'' hf=>#[_,hf.1,?_]) λ_ _ z=>z) (args_list_sort _)))
 exact dA #[_,rfl,hf.2]
end
end Sb
namespace Nk
open PySem PySem.W
end Nk
namespace Nk
open PySem PySem.W
def KeysR(h:Heap)(xs:List (Pn×Addr)):Prop:=∀x∈xs,m9 h x.1.1 x.2
noncomputable def drop(xs:List (Pn×Addr))(k:Pn):List (Pn×Addr):=xs.filter λx=>decide (x.1≠k)
end Nk
namespace Nk
open L2 Ev
def Kf(K:Frag)(H:Hp)(k:Kt)(b:Addr):Prop:=∃M,Rep K M H (.tup (dT k)) (.ref b)
theorem qo:∀k:Kt,cO (dT k)=true
 |.nil=>rfl
 |.ci _ r=>by show (true&&cO (dT r))=true;rw[qo r];rfl
 |.ct a r=>by show (cO (dT a)&&cO (dT r))=true;rw[qo r,qo a];rfl
theorem WX:∀{vs:List Value},jx h (dT k) vs->IsT h k vs:=by
 induction k with
 |nil=>intro vs x;cases x;rfl
 |ci i r ir=>intro vs x;cases x with |cons a b=>cases a with |int i t=>exact⟨t,_,rfl,ir b⟩
 |ct a r ia ir=>
  intro vs x;cases x with |cons p b=>cases p with |tup h q=>
   obtain⟨o,e,c,n,d⟩:=h;exact#[_,_,rfl,#[o,_,n,e,c,d,by simpa using ia q],ir b]
section
variable{X:Cx}{ah: ~~~1}{Y:Sg}{H:Hp}{s:Shared}{D:Addr}{xs:List (Pn×Addr)}
theorem Kf.is(I: ~~~7)(x:Kf X.K H k b):m9 s.heap k b:=by
 obtain⟨M,q⟩:=x;have:=q.dv I (u:=.ref b) rfl (qo k);cases this with |tup h q=>
  obtain⟨o,e,c,n,d⟩:=h;exact#[o,_,n,e,c,d,by simpa using WX q]
def xJ(K:Frag)(H:Hp)(xs:List (Pn×Addr)):Prop:=∀x∈xs,Kf K H x.1.1 x.2
theorem xJ.is(I: ~~~7)(x:xJ X.K H xs):KeysR s.heap xs:=λy hy=>(x y hy).is I
noncomputable def putN(xs:List (Pn×Addr))(k:Pn)(c:Addr):List (Pn×Addr):=if k∈xs.map (·.1)then xs else xs++[(k,c)]
end
end Nk
namespace Nk
open PySem Sb
section
variable{prog:Program}{w:World}{A:Around}{E:Value->Shared->Prop}{s:Shared}
abbrev enS(x:Pn×Addr):Int×Value:=(Zk x.1.1,.ref x.2)
def TO(w:World)(xs:List (Pn×Addr))(o:Obj):Prop:=o.ExactSet/\∃es ep t,SetT o es ep t/\(w.params.followText "set-order"=false->t.led=true)/\(xs.map (·.1)).Nodup/\es.toList.Perm (xs.map enS)
def WY(h:Heap)(xs:List (Pn×Addr)):Prop:=∀x∈xs,m9 h x.1.1 x.2
theorem KJ(hw:w.params.followText "set-order"=false->led=true):TO w [] { cls:=.type "set",dict:=none,data:=.set ([].toArray) 0 (.fresh 0 0 led)}:=by refine#[#[rfl,rfl,rfl],([].toArray),0,_,#[#[rfl,rfl,rfl],rfl,Gi _ _,b0,?_,rfl],hw,qS,.nil];show 0 * 5<7 * 3;decide
theorem W0(hu:A.units+4<cLine)(ho:s.heap.get? a=!o)(hT:TO w xs o)(hR:WY s.heap xs)(hk:m9 s.heap k.1 b)(hn:xs.length<1000)
  (q:∀b' h' o',Heap.SameBut a s.heap h'->h'.get? a=!o'->TO w (putN xs k b) o'->Q b' { s with heap:=h'}) :
  wpAny (model prog w) A (setAddHashed a (.ref b) (Zk k.1)) Q E s:=by
 have hT0:=hT;obtain⟨ex,es,ep,t,S,ld,nd,pm⟩:=hT;have Ny:es.size=xs.length:=by rw[<- i9,pm.length_eq,d6]
 have mem:∀{e},(∃i:Nat,es[i]?=!e) ↔ ∃x∈xs,enS x=e:=λ{e}=>by
  rw[<- eC,<- pm.mem_iff];constructor
  . rintro⟨i,hi⟩;exact CA.mpr (Array.mem_of_getElem? hi)
  . intro he;obtain⟨i,hi,ei⟩:=Array.getElem_of_mem (CA.mp he);exact#[i,by rw[mP hi,ei]]
 classical
 refine l7 (Qv (Gd:=λi=>decide (∃c,es[i]?=!(enS (k,c))/\(k,c)∈xs)) ho S rfl ⋯ (λ_ l' Q' hl' hq=>Qx hk (λy hy=>?_) hq) (λi y hy=>?_) (λQ' hq=>WT k.1 (by have:=k.2;lia) hk hq) (λhq=>?_) (λhq h' es' vU t' sb hg S' pm' l'=>?_) _)
 . obtain⟨⟨k',c⟩,hx,e⟩:=mem.mp (hl' y hy);exact#[c,k',(congrArg Prod.snd e).symm,hR _ hx]
 .
  obtain⟨⟨k',c⟩,hx,e⟩:=mem.mp #[i,hy];have e3:=congrArg Prod.snd e;subst e3;refine#[#[c,rfl],λQ' hq=>WN k'.2 hu (hR _ hx) hk ?_]
  have:decide (k'.1=k.1)=decide (∃c,es[i]?=!(enS (k,c))/\(k,c)∈xs):=by
   apply x0.mpr;constructor
   . intro z;obtain rfl:k'=k:=Subtype.ext z;exact#[c,hy,hx]
   . rintro⟨c',he,hx'⟩;rw[hy]at he;have:=congrArg Prod.snd (l5 he);injection this with this;subst this;exact Qj (hR _ hx) (hR _ hx')
  rw[this];exact hq
 . obtain⟨i,_,_,hd⟩:=hq;obtain⟨c,_,hx⟩:=i4 hd;exact q false s.heap o (Heap.SameBut.refl a s.heap) ho (by unfold putN;rw[eR (eC.mpr #[_,hx,rfl])];exact hT0)
 .
  have hnk:k∉xs.map (·.1):=λhin=>by
   obtain⟨⟨k',c⟩,hx,rfl⟩:=eC.mp hin;obtain⟨i,gi⟩:=mem.mpr #[_,hx,rfl];have hi:=(u7.mp gi).1;have hh:qj es i=Zk k'.1:=by unfold qj;rw[gi];rfl
   exact absurd #[c,gi,hx] (of_decide_eq_false (hq i hi hh))
  refine q true h' _ sb hg ?_;unfold putN;rw[eP hnk];refine#[S'.ex,es',vU,t',S',λhw=>l'.trans (ld hw),?_,?_]
  .
   rw[pV,oT];refine#[nd,by simp,λx hx y hy=>?_]
   rw[fI.mp hy];rintro rfl;exact hnk hx
  . rw[pV];exact pm'.trans (pm.append_right _)
theorem Gn(hu:A.in1.units+4<cLine)(ho:s.heap.get? a=!o)(hT:TO w xs o)(hR:WY s.heap xs)(hk:m9 s.heap k.1 b)(hn:xs.length<1000)
  (q:∀h' o',Heap.SameBut a s.heap h'->h'.get? a=!o'->TO w (putN xs k b) o'->Q .none { s with heap:=h',toks:=s.toks+(uU k.1+1)}) :
  wpAny (model prog w) A (call (.builtin "set.add") [.ref a,.ref b]) Q E s:=by
 refine o3 F.slot_set_add #[o,ho,hT.1.1] F.entry_set_add ?_ (F.args_set_add_2 _ _);unfold Builtin.«set.add» Builtin.Frozenset.oneOther;simp only[List.isEmpty_nil,bind_assoc];refine aS (dA ?_)
 try dsimp only
 refine aS (dA ?_)
 try dsimp only
 refine aS ?_;refine l7 ?_;refine aS (Qk k.1 (by have:=k.2;lia) hk ?_)
 refine W0 hu ho hT hR hk hn λb' h' o' sb e x=>?_
 exact dA #[_,rfl,q h' o' sb e x]
end
end Nk
namespace Sb
open PySem PyProof.Rows
end Sb
namespace Sb
open PySem PyProof.Rows
end Sb
namespace L2
open Sb
section
variable{prog:Program}{w:World}{A:Around}{R:Result->Shared->Prop}{s:Shared}
theorem jC{bG t1 i1:Expr}{f1:List Expr}{aD:List Comprehension}{scope:Scope}{pos:Pos}{it acc:Value}{env:Env}
  (h0:codeAny (model prog w) A (.compLoop (.SetComp bG (#[t1,i1,f1,0]::aD) scope pos) 0 it acc env) R s)
  (h:wpAny (model prog w) A (pyIter it) (λit' s'=>codeAny (model prog w) A (.compLoop (.SetComp bG (#[t1,i1,f1,0]::aD) scope pos) 0 it' acc env) R s') (notedBy (model prog w) A env λx s'=>R (.error x) s') s) :
  codeAny (model prog w) A (.compStart (.SetComp bG (#[t1,i1,f1,0]::aD) scope pos) 0 it acc env) R s:=by
 refine codeAny_of_tree ?_;refine wpAny_notedAt ?_;refine aS (xI (wpAny_ite ?_));split
 .
  first
   |exact aS (dA (dA (And.intro rfl h0)))
   |exact dA (And.intro rfl h0)
 .
  first
   |exact aS (A5 (aS (t5 (aS (mI h (λit' s' h'=>dA (And.intro rfl h')) λ_ _ x=>x)))))
   | (refine aS (A5 ?_);show wpAny _ _ (standAt i1.pos >>= _) _ _ s;exact aS (t5 (aS (mI h (λit' s' h'=>dA (And.intro rfl h')) λ_ _ x=>x))))
end
abbrev KN (bG:Expr) (acc:Value) (env:Env):Sem Unit:=do
 let v <- eval bG env
 standAt bG.pos
 let _ <- call (.builtin "set.add") [acc,v]
theorem QB{prog:Program}{w:World}{A:Around}{E Q:Value->Shared->Prop}{s:Shared}
  (h:Q (.ref s⁻¹) { s with heap:=s.heap.push { cls:=.type "set",dict:=none,data:=.set ([].toArray) 0 (.fresh 0 0 ((not (w.params.followText "set-order"))))}}):wpAny (model prog w) A (newSet (.type "set")) Q E s:=by
 refine aS (aS (xI (dA ?_)));exact aS (wpAny_alloc (dA h))
end L2
namespace Nk
open L2 Ev Sb
abbrev tD (w:World) (xs:List (Pn×Addr)):HO:=.set (TO w xs)
def KQ(K:Frag)(w:World)(D:Addr)(te:TE):TU:=λY H Q=>te Y H λv H5=>∃(b:Addr) (k:Pn) (xs:List (Pn×Addr)),v=.ref b/\H5 D=!(tD w xs)/\Kf K H5 k.1 b/\xJ K H5 xs/\xs.length<1000/\Q Y (upd H5 D (tD w (putN xs k b)))
theorem QC{X:Cx}{D:Addr}{bG:Expr}{te:TE}(hu:X.A.units+6<cLine)(he:PE X bG te)(hx:X.xe=λ_ _=>False):PU X (KN bG (.ref D) X.env) (KQ X.K X.w D te):=by
 intro ah s Y H Q I h;have he:=he ah s Y H _ I h;rw[hx]at he;refine aS (mI he (?_) λ_ _ z=>z)
 rintro y s8 ⟨v,H8,I8,r8,b,k,xs,rfl,hD8,hk8,hy8,hn8,q8⟩;obtain rfl:y=Value.ref b:=r8;obtain⟨o,ho,hT⟩:=I8.hok D _ hD8;exact aS (t5 (aS (Gn (by simp only[in1_units];lia) ho hT (hy8.is I8) (hk8.is I8) hn8 λh' o' sb e x=>dA #[Y,_,I8.write (o:=tD X.w (putN xs k b)) (by rw[hD8];trivial) (.inl rfl) (λb u hb e=>(sb.2 b hb).trans e) #[o',e] #[o',e,x],q8])))
section
variable{X:Cx}{tg iter bG:Expr}{ifs:List Expr}{scope:Scope}{pos:Pos}
theorem W2:compTurn (.SetComp bG [#[tg,iter,ifs,0]] scope pos) 0 it acc env=lF (.SetComp bG [#[tg,iter,ifs,0]] scope pos) tg iter ifs 0 it acc env (KN bG acc env):=by
 congr 1
theorem QD:Ck X (.SetComp bG [#[tg,iter,ifs,0]] scope pos) tg iter ifs [] (newSet (.type "set")) (tD X.w []) (KN bG) where
 cls:=rfl
 und:=λ_ _ _ _ _ _ _=>#[rfl,rfl]
 turn:=λit D env=>W2
 new:=#[_,rfl,λh=>QB h,λ_ _ _ e _=>#[_,e,KJ λhw=>by rw[hw];rfl]]
 start:=jC
theorem Gp{N':List Str}{k:Nat}{w1:TI}{g1:Bk->TG}{S6:Bk->TT}{te:Bk->TE}(hu:∀b:Bk,(X.blk N' scope b).A.units+6<cLine)(B:bJ X.env.scope scope)(hc:X.calm=true)(hN:Names X.N N' scope k)(hi:PI X tg iter w1)
  (hin:∀b:Bk,PG (X.blk N' scope b) tg (g1 b)/\ku (X.blk N' scope b) ifs (S6 b)/\PE (X.blk N' scope b) bG (te b))
  (hs:∀x,foldedSetIterable iter X.env x=pure x) :
  PE X (.SetComp bG [#[tg,iter,ifs,0]] scope pos) (uH (tD X.w []) X k w1 g1 S6 λD b=>KQ X.K X.w D (te b)):=by
 intro ah s Y H Q I h;refine gP B hc hN hi QD (λb D=>#[(hin b).1,(hin b).2.1,QC (hu b) (hin b).2.2 rfl]) hs I h λs' H' D C m I' f' hn q=>?_
 refine#[m,hn,λh' sb=>#[.ref D,H',?_,rfl,q]]
 obtain⟨f0,f1,f2,f3,f4,f5⟩:=f';exact I'.turned (λb o hb e=>(sb.2 b hb).trans e) f0 f1 f3 f4 f5
end
end Nk
namespace Ev
open L2
def zU(z:Z)(D:Addr)(u:HO):Z:={ z with H0:=upd z.H0 D u,M0:=D::z.M0}
section
variable{z:Z}{D:Addr}{u v:HO}{g:G}{Y:Sg}{J M:List Addr}{H:Hp}
structure KR(z:Z)(D:Addr):Prop where
 h0:z.H0 D=none
 m0:∀m∈z.M0,z.H0 m≠none
 bm:∀b∈z.B,b∈z.M0
 tm:∀p∈z.T,p.1∈z.M0
theorem KR.of(s:S z g Y J M H)(h:H D=none):KR z D:=#[s.bZ h,s.m0,s.bm,s.tm]
theorem KR.nB(d:KR z D):D∉z.B:=λh=>d.m0 _ (d.bm _ h) d.h0
theorem KR.nT(d:KR z D):D∉z.TA:=λh=>by
 obtain⟨p,hp,rfl⟩:=eC.mp h;exact d.m0 _ (d.tm _ hp) d.h0
theorem S.toU(s:S z g Y J M H)(d:KR z D)(hm:D∈M)(h:H D=!u)(hu:∀xs,u≠.lst xs):S (zU z D u) g Y J M H where
 sl:=s.sl
 nd:=s.nd
 sub:=s.sub
 own:=λi a l e1 e2=>by
  rcases s.own i a l e1 e2 with q |q
  . exact .inl q
  .
   obtain⟨a',xs,f1,_,f3,_⟩:=s.sl.at e1;rw[e2]at f1;injection f1 with f1;injection f1 with f1;injection f1 with f1;subst f1;refine .inr ?_;show upd z.H0 D u a=none;rw[aC (λe=>by rw[e,h]at f3;exact hu _ (l5 f3))]
   exact q
 live:=s.live
 keep:=λb o e hb ht=>by
  by_cases eb:b=D
  . subst eb;have e:upd z.H0 b u b=!o:=e;rw[aE]at e;rw[h,e]
  . have e:upd z.H0 D u b=!o:=e;rw[aC eb]at e;exact s.keep b o e hb ht
 j8:=λm hm'=>by
  rcases eJ.mp hm' with rfl |hm'
  . exact hm
  . exact s.j8 m hm'
 m0:=λm hm'=>by
  show upd z.H0 D u m≠none;by_cases eb:m=D
  . subst eb;rw[aE];exact λe=>nomatch e
  .
   rw[aC eb];rcases eJ.mp hm' with e |hm'
   . exact absurd e eb
   . exact s.m0 m hm'
 bm:=λb hb=>bP _ (s.bm b hb)
 jw:=s.jw
 tab:=s.tab
 tm:=λp hp=>bP _ (s.tm p hp)
 tt:=s.tt
theorem S.ofU(s:S (zU z D u) g Y J M H)(d:KR z D):S z g Y J M H where
 sl:=s.sl
 nd:=s.nd
 sub:=s.sub
 own:=λi a l e1 e2=>by
  rcases s.own i a l e1 e2 with q |q
  . exact .inl q
  .
   have q:upd z.H0 D u a=none:=q;by_cases eb:a=D
   . subst eb;rw[aE]at q;cases q
   . rw[aC eb]at q;exact .inr q
 live:=s.live
 keep:=λb o e hb ht=>s.keep b o (by
  show upd z.H0 D u b=!o;rw[aC (λeb=>by rw[eb,d.h0]at e;cases e)]
  exact e) hb ht
 j8:=λm hm=>s.j8 m (bP _ hm)
 m0:=d.m0
 bm:=d.bm
 jw:=s.jw
 tab:=s.tab
 tm:=d.tm
 tt:=s.tt
theorem QF{K:Frag}(q:Slots K M H g Y J):D∈J->∃xs,H D=!(.lst xs):=by
 induction q with
 |nil=>exact λh=>nomatch h
 |no _ ih=>exact ih
 |dat _ _ ih=>exact ih
 |own e _ _ ih=>
  intro h;rcases eJ.mp h with rfl |h
  . exact#[_,e]
  . exact ih h
theorem S.W3(s:S (zU z D u) g Y J M H)(d:KR z D)(hu:∀xs,u≠.lst xs):H D=!u/\D∈M/\D∉J:=by
 have h1:=s.keep D _ (by show upd z.H0 D u D=_;rw[aE]) d.nB d.nT
 refine#[h1,s.j8 D b0,λhA=>?_]
 obtain⟨xs,e⟩:=QF s.sl hA;rw[h1]at e;exact hu _ (l5 e)
theorem S.putU(s:S (zU z D u) g Y J M H)(d:KR z D)(hu:∀xs,u≠.lst xs)(hv:∀xs,v≠.lst xs)(gu:Vn u)(gv:Vn v):S (zU z D v) g Y J M (upd H D v):=by obtain⟨h1,h2,h3⟩:=s.W3 d hu;exact ((s.ofU d).Iz (u1:=v) h2 h3 d.h0 h1 gu gv).toU d h2 aE hv
end
end Ev
namespace Sb
open PySem PySem.W PyProof.Rows Ev
end Sb
namespace Ev
open L2 Sb
def zO(z z':Z):Prop:=z'.K=z.K/\z'.lent=z.lent
end Ev
namespace Nk
open L2 Ev Sb
abbrev zT (z:Z) (w:World) (D:Addr) (xs:List (Pn×Addr)):Z:=zU z D (tD w xs)
theorem xK:∀l,tD w xs≠.lst l:=λ_ e=>nomatch e
def fF(ks:List Pn)(k:Pn):List Pn:=if k∈ks then ks else ks++[k]
theorem KS(xs:List (Pn×Addr))(k:Pn)(b:Addr):(putN xs k b).map (·.1)=fF (xs.map (·.1)) k:=by
 unfold putN fF;split
 . rfl
 . rw[pV];rfl
abbrev dK(k:Pn):Ev.D:=.tup (dT k.1)
def gY(K:Frag)(M:List Addr)(H:Hp)(xs:List (Pn×Addr)):Prop:=∀x∈xs,Rep K M H (dK x.1) (.ref x.2)
theorem gY.f{K:Frag}{M:List Addr}{H:Hp}{xs:List (Pn×Addr)}(h:gY K M H xs):xJ K H xs:=λx hx=>#[M,h x hx]
theorem gY.stay{K:Frag}{M M':List Addr}{H H':Hp}{xs:List (Pn×Addr)}(h:gY K M H xs)(st:aq M H M' H'):gY K M' H' xs:=λx hx=>(h x hx).stay st
theorem gY.put{K:Frag}{M:List Addr}{H:Hp}{xs:List (Pn×Addr)}{k:Pn}{b:Addr}(h:gY K M H xs)(q:Rep K M H (dK k) (.ref b)):gY K M H (putN xs k b):=by
 unfold putN;split
 . exact h
 .
  intro x hx;rcases o5.mp hx with hx |hx
  . exact h x hx
  . rw[fI.mp hx];exact q
inductive NP(T:Tg)(mS:G->Bool->G->Prop)(yT:G->Ev.D->G->Prop):List Ev.D->List Pn->G->List Pn->G->Prop
 |nil {ks:List Pn}{g:G}:NP T mS yT [] ks g ks g
 |skip:T.set d g=!g1->mS g1 false g2->NP T mS yT l ks g2 ks' g'->NP T mS yT (d::l) ks g ks' g'
 |take {d:Ev.D}{l:List Ev.D}{k:Pn}{ks ks':List Pn}{g g1 g2 g3 g':G}:T.set d g=!g1->mS g1 true g2->yT g2 (dK k) g3->ks.length<1000->NP T mS yT l (fF ks k) g3 ks' g'->NP T mS yT (d::l) ks g ks' g'
section
variable{X:Cx}{z:Z}{tg iter bG:Expr}{ifs:List Expr}{scope:Scope}{pos:Pos}{N':List Str}{k:Nat}{T:Tg}{items:List Ev.D}{ks:List Pn}{g g1 gE:G}
def SetK(X:Cx)(z:Z)(e:Expr)(g:G)(ks:List Pn)(g':G):Prop:=
 ∃t,PE X e t/\∀Y J M H (Q:VK),S z g Y J M H->(∀D xs H' aF M',S z g' Y aF M' H'->aq M H M' H'->H' D=!(tD X.w xs)->xs.map (·.1)=ks->gY z.K M' H' xs->Q (.ref D) H')->t Y H Q
theorem zP(hK:z.K=X.K)(hw:eL X z tg iter g items g1)(ht:∀(b:Bk) z',zO z z'->gU (X.blk N' scope b) z' tg T)(hT:∀i∈T.ix,g1.length<=i/\i<g1.length+k)
  (hcp:NP T (λg b g'=>∀(bk:Bk) z',zO z z'->cG (X.blk N' scope bk) z' ifs g b g') (λg d g'=>∀(bk:Bk) z',zO z z'->aB (X.blk N' scope bk) z' bG g (.dat d) g') items [] (gD k g1) ks gE) :
  ∃wi,PI X tg iter wi/\∀Y J M H Q,S z g Y J M H->(∀D xs H' aF M',S z (gE.take g1.length) Y aF M' H'->aq M H M' H'->H' D=!(tD X.w xs)->xs.map (·.1)=ks->gY z.K M' H' xs->Q (.ref D) H')->
   uH (tD X.w []) X k wi (λb=>Ez (X.blk N' scope b) tg) (λb=>EY (X.blk N' scope b) ifs) (λD b=>KQ X.K X.w D (Jx (X.blk N' scope b) bG)) Y H Q:=by
 obtain⟨wi,q,kw⟩:=hw;refine#[wi,q,λY J M H Q s kq=>kw Y J M H _ s λqqz H1 bx M1 s1 fP hJ D hD=>?_]
 have hl:=s1.sl.length;have hz:∀p∈z.lent,p.1<Y.length:=λp hp=>(dS.mp (s1.jw p hp).1).1
 have Wm:∀i∈T.ix,Y.length<=i:=λi hi=>by rw[<- hl];exact (hT i hi).1
 have d0:KR z D:=.of s1 hD;have ze:∀xs,zO z (zT z X.w D xs):=λ_=>#[rfl,rfl]
 have sb:=((s1.S8 (u0:=tD X.w []) trivial hD).toU d0 b0 aE xK).wide (List.replicate k none++[!(V.ref D)]);rw[show (List.replicate k (none:Option V)++[!(V.ref D)]).length=k+1 by simp]at sb
 refine kH hJ (λl σ' H'=>∃gb Ab Mb τ xs,S (zT z X.w D xs) gb σ' Ab Mb H'/\aq M1 H1 Mb H'/\σ'=Y++τ/\gY z.K Mb H' xs/\NP T (λg b g'=>∀(bk:Bk) z',zO z z'->cG (X.blk N' scope bk) z' ifs g b g') (λg d g'=>∀(bk:Bk) z',zO z z'->aB (X.blk N' scope bk) z' bG g (.dat d) g') l (xs.map (·.1)) gb ks gE)
  #[_,_,_,_,[],sb,aq.aP hD,rfl,(λx hx=>nomatch hx),hcp] (by rintro _ _ _ ⟨_,_,M2,_,_,_,aK,_⟩;exact#[M2,aK]) ?_ ?_
 . rintro σ' H' ⟨gb,Ab,Mb,τ,xs,s2,aK,rfl,ky,cp⟩;generalize hk:xs.map (·.1)=ka at cp;cases cp;obtain⟨f1,_,_⟩:=s2.W3 d0 xK;obtain⟨A1,s3,n3⟩:=(s2.ofU d0).narrow hz;rw[<- hl]at s3;exact kq _ xs H' A1 Mb s3 (fP.trans aK) f1 hk ky
 .
  rintro d l σ' H' ⟨gb,Ab,Mb,τ,xs,s2,aK,rfl,ky,cp⟩ x H2 yl bk _;obtain⟨s3,dZ,rx⟩:=yl Mb aK (zT z X.w D xs) gb (Y++τ) Ab rfl s2;obtain⟨t,qt,kt⟩:=ht bk _ (ze xs);generalize hk:xs.map (·.1)=ka at cp;cases cp with
  |skip e0 hc aD=>
   refine#[t,qt,kt d gb _ e0 x _ Ab Mb H2 _ s3 rx λσ4 jO s4 ag=>?_]
   obtain⟨τ',rfl⟩:=cV ag Wm;obtain⟨t2,q2,k2⟩:=hc bk _ (ze xs);refine#[t2,q2,k2 _ jO Mb H2 _ s4 λH5 BW M5 s5 ki=>?_]
   exact oY #[_,BW,M5,τ',xs,s5,(aK.trans dZ).trans ki,rfl,(ky.stay dZ).stay ki,hk▸aD]
  |@take _ _ kk _ _ _ _ _ _ _ e0 hc he hn aD=>
   refine#[t,qt,kt d gb _ e0 x _ Ab Mb H2 _ s3 rx λσ4 jO s4 ag=>?_]
   obtain⟨τ',rfl⟩:=cV ag Wm;obtain⟨t2,q2,k2⟩:=hc bk _ (ze xs);obtain⟨t3,q3,k3⟩:=he bk _ (ze xs);refine#[t2,q2,k2 _ jO Mb H2 _ s4 λH5 BW M5 s5 ki=>kr #[t3,q3,k3 _ BW M5 H5 _ s5 λv H6 Wn M6 s6 Ti R6=>?_]]
   have R7:=R6;have R8:=R7;cases R8 with
   |@tup _ b _ _ _=>
    obtain⟨f1,f2,f3⟩:=s6.W3 d0 xK;have ky6:=((ky.stay dZ).stay ki).stay Ti;have aJ:xs.length<1000:=by rw[<- hk,d6]at hn;exact hn
    refine#[b,kk,xs,rfl,f1,#[M6,hK▸R7],hK▸ky6.f,aJ,_,Wn,M6,τ',putN xs kk b,s6.putU d0 xK xK trivial trivial,(((aK.trans dZ).trans ki).trans Ti).trans (aq.write f2),rfl,(ky6.put R7).stay (aq.write f2),?_];rw[KS,hk];exact aD
theorem QG(hu:∀b:Bk,(X.blk N' scope b).A.units+6<cLine)(hK:z.K=X.K)(B:bJ X.env.scope scope)(hc:X.calm=true)(hN:Names X.N N' scope k)(hw:eL X z tg iter g items g1)(ht:∀(b:Bk) z',zO z z'->gU (X.blk N' scope b) z' tg T)(hT:∀i∈T.ix,g1.length<=i/\i<g1.length+k)
  (hcp:NP T (λg b g'=>∀(bk:Bk) z',zO z z'->cG (X.blk N' scope bk) z' ifs g b g') (λg d g'=>∀(bk:Bk) z',zO z z'->aB (X.blk N' scope bk) z' bG g (.dat d) g') items [] (gD k g1) ks gE)
  (hs:∀x,foldedSetIterable iter X.env x=pure x):SetK X z (.SetComp bG [#[tg,iter,ifs,0]] scope pos) g ks (gE.take g1.length):=by
 obtain⟨wi,q,kk⟩:=zP hK hw ht hT hcp;exact#[_,Gp hu B hc hN q (λb=>#[jP,jQ,pM]) hs,kk]
end
end Nk
namespace Nk
open Ev
noncomputable def qp:Kt->Kt->Bool
 |.nil,.nil=>false
 |.nil,_=>true
 |_,.nil=>false
 |.ci i r,.ci j s=>if i=j then qp r s else decide (i<j)
 |.ct a r,.ct b s=>if a=b then qp r s else qp a b
 |.ci _ _,.ct _ _=>true
 |.ct _ _,.ci _ _=>false
theorem CP(a:Kt):qp a a=false:=by
 induction a with
 |nil=>rfl
 |ci i r ih=>unfold qp;rw[eR rfl,ih]
 |ct a r _ ih=>unfold qp;rw[eR rfl,ih]
theorem QH(a:Kt):∀b,qp a b=false->qp b a=false->a=b:=by
 induction a with
 |nil=>intro b h k;cases b <;> first |rfl |symm
 |ci i r ih=>
  intro b h k;cases b with
  |nil=>cases k
  |ci j s=>
   unfold qp at h k;by_cases e:i=j
   . subst e;rw[eR rfl]at h k;rw[ih s h k]
   . rw[eP e]at h;rw[eP (wP e)]at k;exact absurd ⋯ e
  |ct _ _=>symm
 |ct a r ia ih=>
  intro b h k;cases b with
  |nil=>cases k
  |ci j s=>cases k
  |ct b s=>
   unfold qp at h k;by_cases e:a=b
   . subst e;rw[eR rfl]at h k;rw[ih s h k]
   . rw[eP e]at h;rw[eP (wP e)]at k;exact absurd (ia b h k) e
theorem W4(a:Kt):∀b c,qp a b=true->qp b c=true->qp a c=true:=by
 induction a with
 |nil=>
  intro b c h k;cases c with
  |nil=>cases b <;> cases k
  |ci _ _=>rfl
  |ct _ _=>rfl
 |ci i r ih=>
  intro b c h k;cases b with
  |nil=>symm
  |ci j s=>
   cases c with
   |nil=>cases k
   |ct _ _=>rfl
   |ci l t=>
    unfold qp at h k ⊢
    by_cases e:i=j
    .
     subst e;rw[eR rfl]at h;by_cases e2:i=l
     . rw[eR e2]at k ⊢;exact ih s t h k
     . rw[eP e2]at k ⊢;exact k
    .
     rw[eP e]at h;have h:=i4 h;by_cases e2:j=l
     . subst e2;rw[eP e];exact i5 h
     . rw[eP e2]at k;rw[eP ⋯];exact i5 ⋯
  |ct b s=>cases c <;> first |cases k |rfl
 |ct a r ia ih=>
  intro b c h k;cases b with
  |nil=>symm
  |ci j s=>symm
  |ct b s=>
   cases c with
   |nil=>cases k
   |ci _ _=>cases k
   |ct l t=>
    unfold qp at h k ⊢
    by_cases e:a=b
    .
     subst e;rw[eR rfl]at h;by_cases e2:a=l
     . rw[eR e2]at k ⊢;exact ih s t h k
     . rw[eP e2]at k ⊢;exact k
    .
     rw[eP e]at h;by_cases e2:b=l
     . subst e2;rw[eP e];exact h
     .
      rw[eP e2]at k;have hx:=ia b l h k;rw[eP λe3=>by rw[e3,CP]at hx;cases hx]
      exact hx
def fM:iu Kt:=#[qp,CP,λa b c=>W4 a b c,λa b=>QH a b]
noncomputable def vP:Kt->Kt->Bool
 |.nil,_=>true
 |_,.nil=>true
 |.ci _ r,.ci _ s=>vP r s
 |.ct a r,.ct b s=>vP a b&&vP r s
 |_,_=>false
theorem TQ:∀{A:Around}{k2:Kt}{us ws:List Value},jx s.heap (dT k1) us->jx s.heap (dT k2) ws->vP k1 k2=true->A.units+dep k1+1<cLine->Cv A s us ws (qp k1 k2):=by
 induction k1 with
 |nil=>
  intro A k2 us ws x y _ _;cases x;cases k2 with
  |nil=>cases y;exact .nn
  |ci _ _=>cases y;exact .nc
  |ct _ _=>cases y;exact .nc
 |ci i r ih=>
  intro A k2 us ws x y c hu;cases x with |cons a b=>
  cases k2 with
  |nil=>cases y;exact .cn
  |ct _ _=>cases c
  |ci j s'=>
   cases y with |cons a' b'=>
   cases a;cases a';rename_i t t';obtain⟨e,he,hi⟩:=HT.oR A s i t j t';unfold qp;cases e with
   |true=>rw[eR (hi.mp rfl)];exact .eq he (ih b b' c hu)
   |false=>
    rw[eP λz=>t6 (hi.mpr z)]
    exact .ne he λprog w E Q h=>HT.oU A s i t j t' prog w E Q h
 |ct a r ia ih=>
  intro A k2 us ws x y c hu;have hd:A.units+max (dep a+1) (dep r)+1<cLine:=hu;cases x with |cons p b=>
  cases k2 with
  |nil=>cases y;exact .cn
  |ci _ _=>cases c
  |ct a2 s'=>
   cases y with |cons p' b'=>
   obtain⟨c1,c2⟩:=(eM _ _).mp (show (vP a a2&&vP r s')=true from c);have he:=(pB (A:=A) (dep a+1) (by show deps (dT a)+1<=_;rw[Kd];exact eD _) p p' ⋯).1
   rw[show cS (.tup (dT a)) (.tup (dT a2))=decide (a=a2)from Tz a2]at he
   unfold qp;by_cases e:a=a2
   . rw[i5 e]at he;rw[eR e];exact .eq he (ih b b' c2 ⋯)
   .
    rw[mN e]at he;rw[eP e];cases p with |tup i1 v1=>
    cases p' with |tup i2 v2=>
    exact .ne he (n9 i1 i2 (ia v1 v2 c1 (by rw[in1_units];lia)) ⋯)
end Nk
namespace Ev
open L2
mutual
noncomputable def pkE:D->Option (Nk.Kt->Nk.Kt)
 |.int i=>!(.ci i)
 |.tup l=>match yV l with |some a=>!(.ct a) |none=>none
 |_=>none
noncomputable def yV:List D->Option Nk.Kt
 | []=>some .nil
 |d::l=>match pkE d with
  |some f=>(match yV l with |some r=>!(f r) |none=>none)
  |none=>none
end
theorem qu(h:yV (d::l)=!k):∃r,yV l=!r/\((∃i,d=.int i/\k=.ci i r)\/∃m a,d=.tup m/\yV m=!a/\k=.ct a r):=by
 unfold yV at h;split at h
 .
  rename_i f hf;split at h
  .
   rename_i r hr;symm;refine#[r,hr,?_];unfold pkE at hf;split at hf
   . cases hf;exact .inl #[_,rfl,rfl]
   .
    split at hf
    . rename_i ha;cases hf;exact .inr #[_,_,rfl,ha,rfl]
    . cases hf
   . cases hf
  . symm
 . symm
theorem KY:∀{l:List D},yV l=!k->Nk.dT k=l:=by
 induction k with
 |nil=>
  intro l h;cases l with
  |nil=>rfl
  |cons d l=>obtain⟨r,_,⟨_,_,e⟩ |⟨_,_,_,_,e⟩⟩:=qu h <;> cases e
 |ci i r ir=>
  intro l h;cases l with
  |nil=>symm
  |cons d l=>
   obtain⟨r,hr,⟨_,rfl,e⟩ |⟨_,_,_,_,e⟩⟩:=qu h
   . cases e;show D.int _::Nk.dT _=_;rw[ir hr]
   . cases e
 |ct a r ia ir=>
  intro l h;cases l with
  |nil=>symm
  |cons d l=>
   obtain⟨r,hr,⟨_,_,e⟩ |⟨m,_,rfl,hm,e⟩⟩:=qu h
   . cases e
   . cases e;show D.tup (Nk.dT _)::Nk.dT _=_;rw[ir hr,ia hm]
def zQ:List D->Option (List Nk.Kt)
 | []=>![]
 |d::l=>match d with
  |.tup m=>(match yV m with
   |some a=>(match zQ l with |some r=>!(a::r) |none=>none)
   |none=>none)
  |_=>none
def Hy(k:Nk.Kt):D:=.tup (Nk.dT k)
theorem W5:∀{l:List D}{ks:List Nk.Kt},zQ l=!ks->l=ks.map Hy:=by
 intro l
 induction l with
 |nil=>intro ks h;symm;rfl
 |cons d l ih=>
  intro ks h;cases d with
  |tup m=>
   unfold zQ at h;dsimp only at h;split at h
   .
    rename_i a ha;split at h
    . rename_i r hr;symm;rw[List.map_cons,<- ih hr];show _=D.tup (Nk.dT a)::l;rw[KY ha]
    . symm
   . symm
  |_=>symm
def KZ(ks:List Nk.Kt):Bool:=ks.all λa=>decide (Nk.dep a<=3)&&ks.all λb=>Nk.vP a b
end Ev
namespace Sb
open PySem PyProof.Rows
section
variable{prog:Program}{w:World}{A:Around}{s s':Shared}{K:Type} [DecidableEq K] {knd:KeyKind prog w K}{B:List K->Addr->Prop}{R:Result->Shared->Prop}{I:Addr}{fp wr:List Addr}{G:Array GenState->Array GenState->Prop}{n:Nat}{P:Nat->Value->Prop}{St:Nat->Shared->Prop}
noncomputable def more(ks:List (List K))(k:List K):List (List K):=if k∈ks then ks else ks++[k]
def met(val:Nat->List K):Nat->List (List K)
 | 0=>[]
 |i+1=>more (met val i) (val i)
end
end Sb
namespace Sb
open PySem PyProof.Rows
end Sb
namespace Sb
open PySem PyProof.Rows
end Sb
namespace Sb
open PySem PyProof.Rows
end Sb
namespace Sb
open PySem PySem.W PyProof.Rows Ev
theorem Gq{α β:Type}{f:α->β}{l1 l:List β}(h:l1.Perm l):∀{pl:List α},pl.map f=l->∃Ft:List α,Ft.Perm pl/\Ft.map f=l1:=by
 induction h with
 |nil=>exact λ{pl} e=>#[pl,.refl _,e]
 |cons x _ ih=>
  intro pl e;cases pl with
  |nil=>cases e
  |cons p pl=>rw[List.map_cons]at e;injection e with e1 e2;obtain⟨Ft,q1,q2⟩:=ih e2;exact#[p::Ft,q1.cons p,by rw[List.map_cons,q2,e1]]
 |swap x y l=>
  intro pl e
  match pl,e with
  | [],e=>cases e
  | [_],e=>cases e
  |p::q::pl,e=>rw[List.map_cons,List.map_cons]at e;injection e with e1 e2;injection e2 with e2 e3;exact#[q::p::pl,List.Perm.swap ..,by rw[List.map_cons,List.map_cons,e1,e2,e3]]
 |trans _ _ ih1 ih2=>intro pl e;obtain⟨p1,q1,q2⟩:=ih2 e;obtain⟨p2,q3,q4⟩:=ih1 q2;exact#[p2,q3.trans q1,q4]
section
variable{prog:Program}{w:World}{A:Around}{E:Value->Shared->Prop}{s:Shared}{B: ~~~0->Addr->Prop}
noncomputable def adr(p: ~~~0×(Int×Value)):Addr:=match p.2.2 with |.ref b=>b |_=>0
end
end Sb
namespace Nk
open PySem PySem.W PySem.Spec PyProof.Rows L2 Ev Sb
section
variable{prog:Program}{w:World}{A:Around}{E:Value->Shared->Prop}{s:Shared}
theorem QJ(h:Cv A s vs ws b):∀(i:Nat),fin=decide (vs.length<ws.length)->Q b s->KatLex prog w A true fin Q (vs.zip ws) (i+1) s:=by
 induction h with
 |nn=>intro i hf q;exact kat_nil (by rw[hf];exact q)
 |nc=>intro i hf q;exact kat_nil (by rw[hf];simpa using q)
 |cn=>intro i hf q;exact kat_nil (by rw[hf];simpa using q)
 |eq he _ ih=>intro i hf q;exact kat_cons (he prog w _ _ (kat_yes (ih (i+1) (by rw[hf];simp) q)))
 |ne he hl=>intro i hf q;exact kat_cons (he prog w _ _ (kat_no (kat_one _ _ (hl prog w _ _ q))))
def Gr:Kt->Bool
 |.ci _ _=>true
 |_=>false
theorem W6(hu:A.units+5<cLine)(d1:dep k1<=3)(h1:Gr k1=true)(h2:Gr k2=true)(hc:vP k1 k2=true)(x:Dv s.heap (.tup (dT k1)) u1)(y:Dv s.heap (.tup (dT k2)) u2)(h:C (qp k1 k2) s):wpAny (model prog w) A (keyLt' (tuples' true) u1 u2) C (λ_ _=>False) s:=by
 cases k1 with
 |nil=>cases h1
 |ct _ _=>cases h1
 |ci i r=>
 cases k2 with
 |nil=>cases h2
 |ct _ _=>cases h2
 |ci j q=>
 cases x with |tup i1 v1=>
 cases y with |tup i2 v2=>
 cases v1 with |cons a b=>
 cases v2 with |cons a' b'=>
 cases a;cases a';obtain⟨o,e1,e2,n1,e3⟩:=i1;obtain⟨o2,e4,e5,n2,e6⟩:=i2;refine kat_lt e1 e3 e4 e6 ?_;refine kat_cons (wpAny_eqBool_int (kat_go (λe=>?_) (λe=>?_)))
 . have e':=eq_of_beq e;unfold qp at h;rw[eR e']at h;exact kat_yes (QJ (TQ b b' hc (by show A.units+dep r+1<cLine;have:dep r<=3:=d1;lia)) 0 ⋯ h)
 .
  have e':i≠j:=λq=>by rw[q]at e;simp at e
  unfold qp at h;rw[eP e']at h;exact kat_no (oneLt_int h)
theorem W7(hk:Gr k=true)(q:Dv h (.tup (dT k)) u):Qe h u:=by
 cases k with
 |nil=>cases hk
 |ct _ _=>cases hk
 |ci j r=>
 cases q with |tup i v=>
 cases v with |cons a b=>
 cases a;obtain⟨o,e1,e2,n,e3⟩:=i;exact#[_,o,_,_,_,n,rfl,e1,e2,e3]
theorem W8(x:m9 h k b):Dv h (.tup (dT k)) (.ref b):=let #[o,its,n,e,c,d,z]:=x;.tup #[o,e,c,n,by simpa using d] (Kc z)
theorem few:∀l:List Kt,l.length<2->l=aN fM l
 | [],_=>rfl
 | [_],_=>rfl
 |_::_::_,h=>absurd h ⋯
theorem Gs(hu:A.in1.in1.units+5<cLine)(hh:A.in1.in1.handled=none)(ho:s.heap.get? a=!o)(hT:TO w xs o)(hR:WY s.heap xs)(hf:∀x∈xs,Gr x.1.1=true)(hcp:∀x∈xs,∀y∈xs,vP x.1.1 y.1.1=true)(h64:xs.length<64)
  (q:∀(ep:Nat) (ys:List (Pn×Addr)) s1 s',Moved [] (λa b=>b=a) s s1->Moved [] (λa b=>b=a) s1 s'->s'.heap.get? s1⁻¹=!(seqObj "list" (ys.map λy=>Value.ref y.2).toArray ep)->ys.Perm xs->(ys.map (·.1.1))=aN fM (xs.map (·.1.1))->Q (.ref s1⁻¹) s') :
  wpAny (model prog w) A (call (.builtin "sorted") [.ref a]) Q E s:=by
 obtain⟨ex,es,ep,t,S,ld,nd,pm⟩:=hT;obtain⟨pl,p1,p2⟩:=Gq ((ql w a ep es).trans pm) rfl;have vsE:(iF w a ep es).toList.map (·.2)=pl.map λx=>Value.ref x.2:=by rw[<- p2,List.map_map];rfl
 have jE:=p1.length_eq;have aJ:(pl.map λx=>Value.ref x.2).length=xs.length:=by rw[d6,jE]
 have hz:(pl.map λx=>Value.ref x.2).length<=sizeLine:=by rw[sT];lia
 have hes:es.size=xs.length:=by rw[<- i9,pm.length_eq,d6]
 refine Gm hz (xH hh ho S.toW ld (by rw[sT];lia) λs' hmv=>#[vsE,hmv]) λs' hmv=>?_
 have keep0:∀b o,s.heap.get? b=!o->s'.heap.get? b=!o:=λb o e=>hmv.heap b o (λz=>nomatch z) e
 have kp1:(pl.map (·.1.1)).Perm (xs.map (·.1.1)):=p1.map _;generalize hvs:(pl.map λx=>Value.ref x.2)=vs at aJ hz ⊢
 have at_:∀{h:Heap}{i:Nat},(∀b o,s'.heap.get? b=!o->h.get? b=!o)->(hi:i<pl.length)->(pl.map (·.1.1)).getD i .nil=(pl[i]).1.1/\vs.getD i Value.none=.ref (pl[i]).2/\Dv h (.tup (dT (pl[i]).1.1)) (.ref (pl[i]).2)/\pl[i]∈xs:=λ{h i} hk hi=>by
  have hm:=p1.mem_iff.mp (oP hi);refine#[by simp[hi],by rw[<- hvs];simp[hi],W8 (Ka (λb o _ e=>hk b o (keep0 b o e)) (hR _ hm)),hm]
 have dn:∀od:List Nat,od.Perm (List.range pl.length)->od.map (λi=>(pl.map (·.1.1)).getD i .nil)=aN fM (pl.map (·.1.1))->Q (.ref s'⁻¹) { s' with heap:=sortedHeap (s'.heap.push (seqObj "list" vs.toArray 0)) s'⁻¹ vs (od.map λi=>vs.getD i Value.none).toArray}:=λod hp hs=>by
  obtain⟨vU,he⟩:=sortedHeap_at (out:=(od.map λi=>vs.getD i Value.none).toArray) (eQ _ rfl)
  have hin:∀i∈od,i<pl.length:=λi hi=>lS.mp (hp.mem_iff.mp hi)
  have nn:∀d:Pn×Addr,(od.map λi=>vs.getD i Value.none)=(od.map λi=>pl.getD i d).map λy=>Value.ref y.2:=λd=>by
   rw[List.map_map];refine i7 λi hi=>?_
   have hi':=hin i hi;rw[(at_ (λ_ _ e=>e) hi').2.1]
   simp[hi']
  have d0:Pn×Addr:=(#[.nil,o4 _],0);rw[nn d0]at he ⊢
  refine q vU (od.map λi=>pl.getD i d0) s' _ hmv #[λb o _ hb=>?_,rfl,rfl,rfl,eD _] he ?_ ?_
  .
   have hlt:=fN hb;rw[sortedHeap_old (kA hlt) (by rw[tS];lia)]
   exact dC _ hb
  . refine (hp.map _).trans ?_;rw[bK];exact p1
  .
   have e2:aN fM (xs.map (·.1.1))=aN fM (pl.map (·.1.1)):=(dP ((aQ _).trans kp1) (dg _)).symm;rw[e2,<- hs,List.map_map];refine i7 λi hi=>?_
   have hi':=hin i hi;simp[hi']
 have hvl:vs.length=pl.length:=by rw[aJ,jE]
 by_cases h2:vs.length<2
 .
  refine wQ (eQ _ rfl) h2 #[rfl,?_];have:=dn (List.range pl.length) (.refl _) (by
   have e:=bK (pl.map (·.1.1)) Kt.nil;rw[d6]at e;rw[e];exact few _ (by rw[d6,<- hvl];exact h2))
  rw[<- hvl,bK]at this;exact this
 .
  have keep:∀b o,s'.heap.get? b=!o->(dO { s' with heap:=s'.heap.push (seqObj "list" vs.toArray 0)} s'⁻¹ vs).heap.get? b=!o:=λb o e=>mW (kA (fN e)) (dC _ e)
  refine wO (κ:=tuples' true) (O:=fM) (key:=λi=>(pl.map (·.1.1)).getD i .nil) (eQ _ rfl) ⋯ ⋯ (λQ' hq=>?_) (λi j C hi hj hC=>?_) λp hp hr=>#[rfl,?_]
  .
   obtain⟨fs,q1,q2,q3⟩:=lP (vs:=vs) λv hv=>by
    obtain⟨i,hi,rfl⟩:=v6 hv;obtain⟨_,g2,g3,g4⟩:=at_ keep (show i<pl.length by lia)
    have g5:vs.getD i Value.none=vs[i]:=by rw[dE,eA hi];rfl
    rw[<- g5,g2];exact W7 (hf _ g4) g3
   exact kat_kind (T:=.type "int") q1 ⋯ (λv hv=>by obtain⟨i,t,rfl⟩:=q3 v hv;exact sS) ⋯ hq
  .
   obtain⟨g1,g2,g3,g4⟩:=at_ keep (show i<pl.length by lia)
   obtain⟨f1,f2,f3,f4⟩:=at_ keep (show j<pl.length by lia)
   replace hC:C (qp ((pl.map (·.1.1)).getD i .nil) ((pl.map (·.1.1)).getD j .nil)) _:=hC;rw[g1,f1]at hC;show wpAny _ _ (keyLt' (tuples' true) (vs.getD i Value.none) (vs.getD j Value.none)) C _ _;rw[g2,f2];exact W6 hu (pl[i]).1.2 (hf _ g4) (hf _ f4) (hcp _ g4 _ f4) g3 f3 hC
  .
   rw[hvl,show pl.length=(pl.map (·.1.1)).length from (d6 ..).symm]at hp hr
   exact dn p.toList (by rw[d6]at hp;exact (y7.mp hp).trans ⋯) (mY hp hr)
end
end Nk
namespace Nk
open PySem PySem.W PySem.Spec PyProof.Rows L2 Ev Sb
section
variable{X:Cx}{z:Z}{g g1:G}{ks:List Pn}
def K1(ks:List Pn):Bool:=decide (ks.length<64)&&ks.all λa=>Gr a.1&&ks.all λb=>vP a.1 b.1
theorem CQ:∀ys:List (Pn×Addr),Vals (ys.map λy=>V.ref y.2) (ys.map λy=>Value.ref y.2)
 | []=>.nil
 |_::ys=>.cons rfl (CQ ys)
theorem CT{K:Frag}{M:List Addr}{H:Hp}:∀{ys:List (Pn×Addr)},gY K M H ys->aH K M H (ys.map λy=>dK y.1) (ys.map λy=>V.ref y.2)
 | [],_=>.nil
 |y::ys,h=>.cons (h y b0) (CT λx hx=>h x (bP _ hx))
theorem u5(hc:X.calm=true)(hu:X.A.units+7<cLine):eF X (.builtin "sorted") (λvs H Q=>∃p xs,vs=[.ref p]/\H p=!(tD X.w xs)/\xJ X.K H xs/\K1 (xs.map (·.1))=true/\
  ∀q (ys:List (Pn×Addr)),H q=none->ys.Perm xs->(ys.map (·.1.1))=aN fM (xs.map (·.1.1))->Q (.ref q) (upd H q (.lst (ys.map λy=>V.ref y.2)))):=by
 intro ah s Y H vs us Q I r h;obtain⟨p,xs,rfl,hq,hy,hg,q⟩:=h;obtain⟨u,rfl,rx⟩:=vals1 r;cases rx;obtain⟨h1,h2⟩:=(eM _ _).mp hg;have h1:=i4 h1;rw[d6]at h1;have hh:=I.ok.hd hc;obtain⟨o,ho,hT⟩:=I.hok p _ hq;have hx:∀x∈xs,Gr x.1.1=true/\∀y∈xs,vP x.1.1 y.1.1=true:=λx hx=>by
  obtain⟨a,b⟩:=(eM _ _).mp (hZ.mp h2 x.1 (eC.mpr #[x,hx,rfl]));exact#[a,λy hy=>hZ.mp b y.1 (eC.mpr #[y,hy,rfl])]
 refine Gs (by simp only[in1_units];lia) hh ho hT (hy.is I) (λx h=>(hx x h).1) (λx h=>(hx x h).2) h1 λep ys s2 s3 m1 m2 hget hp hs=>?_
 obtain⟨h2,g2,dr2,tk2,os2⟩:=s2;obtain⟨h3,g3,dr3,tk3,os3⟩:=s3;obtain⟨a1,a2,a3,a4,a5⟩:=m1;obtain⟨b1,b2,b3,b4,b5⟩:=m2;subst a2 a3 a4 b2 b3 b4;have I3:L2.Inv X ah Y H { s with heap:=h2,toks:=tk2}:=I.kept λb o hb=>a1 b o (λz=>nomatch z) hb
 have hf:=I3.hok.fresh (eD _);exact#[.ref h2.objs.size,_,I3.laid (o:=.lst (ys.map λy=>V.ref y.2)) (λb o hb=>b1 b o (λz=>nomatch z) hb) (eD _) #[by rw[d6,hp.length_eq,sT];lia,_,ep,CQ ys,hget],rfl,q _ ys hf hp hs]
theorem K3(hc:X.calm=true)(hu:X.A.units+7<cLine)(hK:z.K=X.K)(h:SetK X z e g ks g1)(hs:K1 ks=true)(hg:Gl X "sorted")(hm:X.mg "sorted"=none)(eZ:starEach [e] X.env=(false,eval e X.env)::starEach [] X.env) :
  aB X z (.Call (.Name "sorted" p) [e] [] pos) g (.new ((aN fM (ks.map (·.1))).map Hy)) g1:=by
 obtain⟨t,q,k⟩:=h;refine#[_,oM (u5 hc hu) hg hm (by rfl:bootBuiltins ("sorted":Str)=!(.builtin "sorted")) (iA q lC eZ) ⋯ ⋯ eZ rfl,λY J M H Q s kk=>k Y J M H _ s λD xs H' aF M' s' st hD hk hy=>?_]
 subst hk;refine#[D,xs,rfl,hD,hK▸hy.f,hs,λq ys hq hp hs=>?_]
 have aK:aq M' H' (q::M') (upd H' q (.lst (ys.map λy=>V.ref y.2))):=aq.aP hq
 have e:(aN fM ((xs.map (·.1)).map (·.1))).map Hy=ys.map λy=>dK y.1:=by rw[List.map_map];show (aN fM (xs.map (·.1.1))).map Hy=_;rw[<- hs,List.map_map];rfl
 rw[e]at kk;refine kk (.ref q) _ aF (q::M') (s'.aP hq) (st.trans aK) #[q,_,rfl,b0,λhA=>s'.fresh hq (s'.sub q hA),s'.bZ hq,aE,?_]
 exact CT (gY.stay (λx hx=>hy x (hp.mem_iff.mp hx)) aK)
end
end Nk
namespace Nk
open PySem Ev
def pnT(l:List Ev.D):Option Pn:=match yV l with
 |some k=>if h:dep k<=3 then some #[k,h]else none
 |none=>none
theorem W9(h:pnT l=!k):Ev.D.tup l=dK k:=by
 unfold pnT at h;split at h
 .
  rename_i a ha;split at h
  . symm;show Ev.D.tup l=.tup (dT a);rw[KY ha]
  . symm
 . symm
end Nk
namespace Ev
open PySem PySem.W PySem.Spec PyProof.Rows L2
section
variable{prog:Program}{w:World}{A:Around}{R:Result->Shared->Prop}{E:Value->Shared->Prop}{s:Shared}{I S:Addr}{fp wr:List Addr}{P:Nat->Value->Prop}{St:Nat->Heap->Prop}
theorem zR(W:Walks prog w A.in1 I fp wr 0 P St)(hS:S∉fp)(st:St 0 s.heap)(oS:s.heap.get? S=some { cls:=.type "list",dict:=none,data:=.seq ([].toArray) c,slots:=([].toArray)})
  (fin:∀h tk,(∀b o,b∉wr->s.heap.get? b=!o->h.get? b=!o)->R (.ok (.ret d)) { s with heap:=h,toks:=tk}) :
  codeAny (model prog w) A (.builtin "min.loop" #[[.ref I,.none,.ref S],[(Str.ofString "default",d)]]) R s:=by
 refine AZ Cc ?_;refine aS (yY oS rfl ?_);refine aS (BU (W.done s _ _ st λh tk kp=>?_))
 refine aS (A5 ?_);exact dA (fin h tk kp)
theorem ng
  (h:wpAny (model prog w) A.in1 (pyIter x) (λit t=>∃I fp wr P St,it=.ref I/\Walks prog w A.in1 I fp wr 0 P St/\St 0 t.heap/\(∀b∈fp,b<t⁻¹)/\(∀b o,s.heap.get? b=!o->t.heap.get? b=!o/\b∉wr)/\
   ∀h' tk,(∀b o,s.heap.get? b=!o->h'.get? b=!o)->Q d { t with heap:=h',toks:=tk}) E s) :
  wpAny (model prog w) A (call (.builtin "min") [x] [(Str.ofString "default",d)]) Q E s:=by
 refine m8 (.inr #[d,rfl]) ?_;refine aS (CH (show Builtin.Builtins.bindParams "min" ["key", "default"] 0 #[[],[(Str.ofString "default",d)]]=pure [none,!d]from rfl) ?_)
 refine aS (dA ?_);refine aS (mI h (λit t z=>?_) λ_ _ e=>e)
 obtain⟨I,fp,wr,P,St,rfl,W,st,hf,hw,fin⟩:=z;refine aS (nE ?_);have hS:t⁻¹∉fp:=λz=>nS _ (hf _ z)
 exact dA #[A6 Bi _,zR W hS (W.frame _ _ _ st λb _ o e=>dC _ e) (eQ _ rfl) λh' tk kp=>fin h' tk λb o e=>kp b o (hw b o e).2 (dC _ (hw b o e).1)]
end
def tG(d:D):Option D:=match dJ d with
 |![]=>some .non
 |some l=>(match zQ l with |!(k::ks)=>if KZ (k::ks)=true then some (Hy (fD Nk.fM k ks))else none |_=>none)
 |none=>none
section
variable{X:Cx}{z:Z}{g g1:G}{p pos kp kpos:Pos}{e:Expr}
theorem QK(hc:X.calm=true)(hu:X.A.units+6<cLine)(hK:z.K=X.K)(ha:dB X z [e] g [r] g1)(hp:pk r g1=!d)(hx:tG d=!x)
  (hg:Gl X "min") (hm:X.mg "min"=none) (eZ:starEach [e] X.env=(false,eval e X.env)::starEach [] X.env) :
  aB X z (.Call (.Name "min" p) [e] [#[!"default",.Constant .none j kp,kpos]] pos) g (.dat x) g1:=by
 refine aB.of λah s Y J M H Post I st k=>?_
 refine AV (gk I hg hm (by rfl:bootBuiltins ("min":Str)=!(.builtin "min")) (callWith_kw ?_ (by rw[eZ];rfl) (by rw[eZ];rfl)))
 refine ha.run I st λvs us s1 H1 bx M1 I1 r1 q1 q2 q3=>?_
 have rO:=q1.rO q3 (by unfold rO;rw[hp];rfl)
 obtain⟨v1,rfl,pv1⟩:=rO.one;obtain⟨u1,rfl,ru1⟩:=vals1 r1;refine kws_cons (Constant_none (kws_nil ?_));have hh:=I1.ok.hd hc;have main:∀(a:Addr) (l:List D) (xs:List V),v1=.ref a->aH z.K M1 H1 l xs->(cZ X.K H1 a xs\/iO X.K H1 a xs)->dJ d=!l->wpAny (~~~2) X.A (call (.builtin "min") [u1] [(Str.ofString "default",Value.none)]) Post X.xe s1:=λa l xs hv rr hq hs=>by
  subst hv;cases ru1;unfold tG at hx;rw[hs]at hx;cases l with
  |nil=>
   cases hx;cases rr;have fin:∀h' tk,(∀b o,s1.heap.get? b=!o->h'.get? b=!o)->Post Value.none { s1 with heap:=h',toks:=tk}:=λh' tk kp=>k .non Value.none _ H1 bx M1 (I1.kept kp) rfl q1 q2 .non
   have lt:a<s1⁻¹->∀o:Obj,∀b∈[s1⁻¹,a],b<(s1.heap.push o).objs.size:=λhlt o b hb=>by
    rw[tS];simp only[eJ,nV,A9]at hb;rcases hb with rfl |rfl
    . exact oI _
    . exact AK hlt
   have ow:∀(ob:Obj) (b:Addr) (o:Obj),s1.heap.get? b=!o->(s1.heap.push ob).get? b=!o/\b∉[s1⁻¹]:=λob b o e=>#[dC _ e,λhm=>by
    have:b=s1⁻¹:=by simpa using hm
    exact absurd (fN e) (by rw[this];exact nS _)]
   rcases hq with hq |hq
   .
    obtain⟨its,rv,pl,hz⟩:=I1.list hq;cases rv;have pl:=pl.isList;have hlt:a<s1⁻¹:=by obtain⟨_,e,_⟩:=pl;exact fN e
    refine ng (AI pl ?_);exact#[s1⁻¹,_,_,_,_,rfl,Walks.list (A:=X.A.in1) hh s1⁻¹ a (kA hlt) ([].toArray),#[#[_,eQ _ rfl,rfl,rfl],pl.push _],lt hlt _,ow _,fin]
   .
    obtain⟨its,rv,pl,hz⟩:=I1.tuple hq;cases rv;have hlt:a<s1⁻¹:=by obtain⟨_,e,_⟩:=pl;exact fN e
    have Ft:=pl;refine ng (At Ft ?_);exact#[s1⁻¹,_,_,_,_,rfl,Walks.tuple (A:=X.A.in1) hh s1⁻¹ a (kA hlt) ([].toArray),#[#[_,eQ _ rfl,rfl,rfl],IsTup.keeps Ft λb o e=>dC _ e],lt hlt _,ow _,fin]
  |cons d0 l=>
   dsimp only at hx;split at hx
   .
    rename_i kk ks hk;split at hx
    .
     rename_i hcp;cases hx;have hl:=W5 hk;rw[hl]at rr;have hpr:∀a∈kk::ks,Nk.dep a<=3/\∀b∈kk::ks,Nk.vP a b=true:=λa ha=>by
      obtain⟨h1,h2⟩:=(eM _ _).mp (hZ.mp hcp a ha);exact#[i4 h1,λb hb=>hZ.mp h2 b hb]
     refine mI (J8 (O:=Nk.fM) (un:=Hy) (d0:=kk) (.inr #[_,rfl]) hc (λa _=>Nk.qo a) (λs k1 k2 u1 u2 g1 g2 x y=>?_) I1 hq (hK▸rr) (λ_ h=>h) (Q:=λv H'=>H'=H1/\Rep z.K M1 H1 (Hy (fD Nk.fM kk ks)) v) λi hi e=>#[rfl,?_]) (λu s' hu=>?_) λ_ _ z=>z
     .
      have:=(hpr k1 g1).1;cases x with |tup i1 v1=>
      cases y with |tup i2 v2=>
      exact n9 i1 i2 (Nk.TQ v1 v2 ((hpr k1 g1).2 k2 g2) (by rw[in1_units];lia)) (by rw[in1_units];lia)
     .
      have hd:i<(kk::ks).length:=by have:=rr.length;rw[d6]at this;lia
      obtain⟨v,e1,e2⟩:=rr.get (d:=Hy (fD Nk.fM kk ks)) (by
       rw[l6,<- e,dE,eA hd];rfl)
      have q2:xs.getD i .non=v:=by rw[dE,e1];rfl
      rw[q2];exact e2
     . obtain⟨v,H',I',rel,rfl,rp⟩:=hu;exact k v u s' H' bx M1 I' rel q1 q2 rp
    . cases hx
   . cases hx
 cases d with
 |lst m=>obtain⟨a,xs,e0,e1,e2⟩:=pv1.list;exact main a m xs e0 e2 (.inl (cZ.of e1)) rfl
 |fix m=>obtain⟨a,xs,e0,e1,e2⟩:=pv1.fix;exact main a m xs e0 e2 (.inl (hK▸e1.sq)) rfl
 |tup m=>obtain⟨a,xs,e0,e1,e2⟩:=pv1.tup;exact main a m xs e0 e2 (.inr (hK▸e1.sq)) rfl
 |_=>cases hx
end
inductive Bl where
 |len |list |tuple |max |min |str |all |sorted |sum |any |int
 deriving DecidableEq
set_option genInjectivity false in
inductive Ex where
 |val (d:D) |slot (i:Nat)
 |bin (op:Operator) (a b:Ex) |cmp (op:CmpOp) (a b:Ex) |chain (a:Ex) (ops:List CmpOp) (l:List Ex)
 |not (a:Ex) |and (l:List Ex) |or (l:List Ex) |ite (c a b:Ex)
 |tup (l:List Ex) |lst (l:List Ex)
 |ix (a b:Ex) |slice (a:Ex) (lo hi:Option Ex)
 |call (f:Nat) (l:List Ex) |blt (b:Bl) (l:List Ex) |K4 (a:Ex) (n:String)
 |comp (n k:Nat) (T:Tg) (it:Ex) (c:Option Ex) (e:Ex)
 |dG (n k:Nat) (T1:Tg) (lU:Ex) (c1:Option Ex) (T:Tg) (it:Ex) (c:Option Ex) (e:Ex)
 |tH (n k:Nat) (T:Tg) (it:Ex) (c:Option Ex) (e:Ex)
 |cz (a:Ex) |eO (a b:Ex) |xM (a:Ex)
 |enum (a:Ex) |qw (a:Ex) |minD (a:Ex)
 |append (i:Nat) (e:Ex) |extend (i:Nat) (e:Ex) |tK (i:Nat) (e:Ex)
set_option genInjectivity false in
inductive Sm where
 |ret (e:Ex) |expr (e:Ex) |set (i:Nat) (e:Ex) |setC (i:Nat) (e:Ex) |tgt (T:Tg) (e:Ex) |item (i:Nat) (j e:Ex)
 |par (i j:Nat) (a b:Ex)
 |ite (c:Ex) (a b:List Sm) |loop (T:Tg) (it:Ex) (b:List Sm) |while (c:Ex) (b:List Sm) |rows (im it iy ia ib:Nat) |stuck
structure Fx where
 np:Nat
 n:Nat
 body:List Sm
noncomputable def Tg.iC:Tg->Bool
 |.tp _=>true
 |.nm _=>false
noncomputable def K5(i j:Int):Bool:=(decide (-(2 ^ 64)<i)&&decide (i<2 ^ 64))||(decide (-(2 ^ 64)<j)&&decide (j<2 ^ 64))
def lim:Nat:=16777216
noncomputable def lV{α:Type}(f:Int->Int->Option α)(a b:D):Option α:=match a with
 |.int i=>(match b with |.int j=>f i j |_=>none)
 |_=>none
noncomputable def K6(a b:D):Option R:=match a with
 |.int i=>(match b with |.int j=>!(.dat (.int (i+j))) |_=>none)
 |.lst l=>(match b with |.lst m=>if l.length+m.length<=lim then some (.new (l++m))else none |_=>none)
 |.tup l=>(match b with |.tup m=>if l.length+m.length<=lim then some (.dat (.tup (l++m)))else none |_=>none)
 |_=>none
def K7(a:D)(k:Int):Option R:=match a with
 |.int i=>if K5 i k=true then some (.dat (.int (i * k)))else none
 |.lst l=>if -(2 ^ 63)<=k/\k<2 ^ 63/\l.length * k.toNat<=lim then some (.new (List.replicate k.toNat l).flatten)else none
 |_=>none
def nO(op:Operator)(a b:D):Option R:=match op with
 |.Add=>K6 a b
 |.Sub=>lV (λi j=>!(.dat (.int (i - j)))) a b
 |.Mult=>(match b with |.int k=>K7 a k |_=>none)
 |.FloorDiv=>lV (λi j=>if 0<j/\j<18446744073709551616 then some (.dat (.int (i / j)))else none) a b
 |.Mod=>lV (λi j=>if 0<j then some (.dat (.int (i % j)))else none) a b
 |.Pow=>lV (λi j=>if 0<=j/\j<=1000/\i.natAbs<2 ^ 64 then some (.dat (.int (i ^ j.toNat)))else none) a b
 |_=>none
def lW(d1 d2:D):Bool:=gH d1&&gH d2&&decide (dep d1<=190)
def rR(d1:D)(l:List D):Bool:=gH d1&&cO l&&decide (deps l<=190)
def ltF(a b:D):Option Bool:=match a with
 |.int i=>(match b with |.int j=>!(decide (i<j)) |_=>none)
 |.tup l=>(match b with |.tup m=>(match bH l with |some ns=>(match bH m with |some ms=>!(HT.lexLt ns ms) |none=>none) |none=>none) |_=>none)
 |_=>none
noncomputable def isF(a b:D):Option Bool:=match b with
 |.bl c=>!(Tc a c)
 |.non=>!(kF a)
 |_=>none
def cY(op:CmpOp)(d1 d2:D):Option Bool:=match op with
 |.Eq=>if lW d1 d2=true then some (cS d1 d2)else none
 |.NotEq=>if lW d1 d2=true then some ((not (cS d1 d2)))else none
 |.Lt=>ltF d1 d2
 |.LtE=>lV (λi j=>!(decide (i<=j))) d1 d2
 |.Gt=>lV (λi j=>!(decide (i > j))) d1 d2
 |.GtE=>lV (λi j=>!(decide (i ≥ j))) d1 d2
 |.In=>(match dJ d2 with |some l=>if rR d1 l=true then some (l.any λd=>cS d d1)else none |none=>none)
 |.NotIn=>(match dJ d2 with |some l=>if rR d1 l=true then some ((not (l.any λd=>cS d d1)))else none |none=>none)
 |.Is=>isF d1 d2
 |.IsNot=>(match isF d1 d2 with |some c=>!((not c)) |none=>none)
def CV:D->D->Option D
 |.lst l,.int i=>fS l i
 |.fix l,.int i=>fS l i
 |.tup l,.int i=>fS l i
 |_,_=>none
def QL(b:Bl)(d:D):Option R:=match b with
 |.len=>(match lenD d with |some n=>!‹n› |none=>none)
 |.list=>(match dJ d with |some l=>!(.new l) |none=>none)
 |.tuple=>(match dJ d with |some l=>!(.dat (.tup l)) |none=>none)
 |.min=>(match dJ d with |some l=>(match pY l with |!(k::ks)=>!(.dat (P8 (fD uP k ks))) |_=>none) |none=>none)
 |.all=>(match d with |.lst l=>(match wD l with |some bs=>!(.dat (.bl (bs.all id))) |none=>none) |_=>none)
 |.int=>(match d with |.bl c=>!(.dat (.int (if c=true then 1 else 0))) |_=>none)
 |.sorted=>(match d with |.lst l=>(match bH l with |some ns=>if ns.length<64 then some (.new ((bO ns).map .int))else none |none=>match gW l with |some ur=>if ur.length<64 then some (.new ((aN dD ur).map λns=>.tup (ns.map .int)))else none |none=>none) |_=>none)
 |.sum=>(match dJ d with |some l=>(match bH l with |some ns=>!(.dat (.int ns.sum)) |none=>none) |none=>none)
 |_=>none
def bl2(b:Bl)(d e:D):Option R:=match b with
 |.max=>lV (λi j=>!(.dat (.int (if j > i then j else i)))) d e
 |.min=>lV (λi j=>!(.dat (.int (if j<i then j else i)))) d e
 |_=>none
def jH(b:Bl)(ds:List D):Option R:=match ds with
 | [d]=>QL b d
 | [d,e]=>bl2 b d e
 |_=>none
noncomputable def qx(t n:String):Bool:=t==n||(t == "bool" && n == "int")
noncomputable def isW:Ex->Bool
 |.cz _=>true
 |.eO _ _=>true
 |.enum _=>true
 |_=>false
structure Rn where
 e:List Nat->Nat->Ex->G->Option (R×G)
 t:List Nat->Nat->Ex->G->Option (Bool×G)
 b:List Nat->Nat->List Sm->G->Option (Fl×G)
 x:List Nat->Nat->Ex->G->Option (Nat×G)
 xt:List Nat->Nat->Ex->G->Option (Nat×G)
 xb:List Nat->Nat->List Sm->G->Option (Nat×G)
noncomputable def toD(bor:List Nat):R->G->Option (D×G)
 |.dat d,g=>!(d,g)
 |.new l,g=>!(.lst l,g)
 |.var i,g=>if i∈bor then none else match g[i]? with |!(.own l)=>!(.lst l,g.set i (.dat (.lst l))) |_=>none
noncomputable def norm:R->R
 |.new l=>.dat (.lst l)
 |.dat d=>.dat d
 |.var i=>.var i
section
variable(rn:Rn)(bor:List Nat)(k:Nat)
noncomputable def fT(e:Ex)(g:G):Option (D×G):=match rn.e bor k e g with
 |!(r,g1)=>toD bor r g1
 |none=>none
noncomputable def qy:List Ex->G->Option (List D×G)
 | [],g=>!([],g)
 |e::es,g=>match fT rn bor k e g with
  |!(d,g1)=>match qy es g1 with
   |!(ds,g2)=>!(d::ds,g2)
   |none=>none
  |none=>none
def argsR:List Ex->G->Option (List R×G)
 | [],g=>!([],g)
 |e::es,g=>match rn.e bor k e g with
  |!(r,g1)=>match argsR es g1 with
   |!(rs,g2)=>!(norm r::rs,g2)
   |none=>none
  |none=>none
def Xa:D->List CmpOp->List Ex->G->Option (Bool×G)
 |d1,[op],[b],g=>match fT rn bor k b g with
  |!(d2,g1)=>match cY op d1 d2 with |some c=>!(c,g1) |none=>none
  |none=>none
 |d1,op::op'::ops,b::b'::bs,g=>match fT rn bor k b g with
  |!(d2,g1)=>match cY op d1 d2 with
   |some true=>Xa d2 (op'::ops) (b'::bs) g1
   |some false=>!(false,g1)
   |none=>none
  |none=>none
 |_,_,_,_=>none
def K8:List Ex->G->Option (R×G)
 | [],_=>none
 | [a],g=>rn.e bor k a g
 |a::b::l,g=>match rn.e bor k a g with
  |!(.dat (.bl true),g1)=>K8 (b::l) g1
  |!(.dat (.bl false),g1)=>!(.dat (.bl false),g1)
  |_=>none
def orF:List Ex->G->Option (R×G)
 | [],_=>none
 | [a],g=>rn.e bor k a g
 |a::b::l,g=>match rn.e bor k a g with
  |!(.dat (.bl false),g1)=>orF (b::l) g1
  |!(.dat (.bl true),g1)=>!(.dat (.bl true),g1)
  |_=>none
def xN:List Ex->G->Option (Bool×G)
 | [],_=>none
 | [a],g=>rn.t bor k a g
 |a::b::l,g=>match rn.t bor k a g with
  |!(true,g1)=>xN (b::l) g1
  |!(false,g1)=>!(false,g1)
  |none=>none
def K9:List Ex->G->Option (Bool×G)
 | [],_=>none
 | [a],g=>rn.t bor k a g
 |a::b::l,g=>match rn.t bor k a g with
  |!(false,g1)=>K9 (b::l) g1
  |!(true,g1)=>!(true,g1)
  |none=>none
noncomputable def xO:Option Ex->G->Option (Option Int×G)
 |none,g=>!(none,g)
 |!e,g=>match fT rn bor k e g with
  |!(.int i,g1)=>!(!i,g1)
  |_=>none
noncomputable def QM(j:Int):Bool:=decide (-(2 ^ 62)<=j)&&decide (j<2 ^ 62)
def cN(tp:Bool)(it:Ex)(g:G):Option (List D×G):=match it with
 |.cz a=>match fT rn bor k a g with
  |!(.int j,g1)=>if QM j=true then some (bQ 0 j.toNat,g1)else none
  |_=>none
 |.eO a b=>match fT rn bor k a g with
  |!(.int c,g1)=>match fT rn bor k b g1 with
   |!(.int j,g2)=>if QM c=true/\QM j=true then some (bQ c (j - c).toNat,g2)else none
   |_=>none
  |_=>none
 |.enum a=>if tp=true then match fT rn bor k a g with
  |!(.tup l,g1)=>!(mZ l,g1)
  |_=>none
  else none
 |e=>match fT rn bor k e g with
  |!(.tup l,g1)=>!(l,g1)
  |!(.lst l,g1)=>!(l,g1)
  |!(.fix l,g1)=>!(l,g1)
  |_=>none
def nP:Option Ex->G->Option (Bool×G)
 |none,g=>!(true,g)
 |!c,g=>rn.t bor k c g
def zS(T:Tg)(last:Nat)(c:Option Ex)(e:Ex):List D->G->Option G
 | [],g=>!g
 |d::l,g=>match T.set d g with
  |none=>none
  |some g1=>match nP rn bor k c g1 with
   |none=>none
   |!(false,g2)=>zS T last c e l g2
   |!(true,g2)=>match fT rn bor k e g2 with
    |none=>none
    |!(x,g3)=>match g3[last]? with
     |!(.own acc)=>if acc.length<lim then zS T last c e l (g3.set last (.own (acc++[x])))else none
     |_=>none
def bS(n kk:Nat)(T:Tg)(it:Ex)(c:Option Ex)(e:Ex)(g:G):Option (List D×G):=match cN rn bor k T.iC it g with
 |none=>none
 |!(items,g1)=>if g1.length=n/\(T.ix.any λi=>decide (i∈bor))=false then match zS rn bor k T (n+kk) c e items (gC kk g1)with
   |none=>none
   |some gE=>match gE[n+kk]? with
    |!(.own acc)=>!(acc,gE.take n)
    |_=>none
  else none
def qz(T1:Tg)(c1:Option Ex)(T:Tg)(it:Ex)(c:Option Ex)(e:Ex)(last:Nat):List D->G->Option G
 | [],g=>!g
 |d::l,g=>match T1.set d g with
  |none=>none
  |some g1=>match nP rn bor k c1 g1 with
   |none=>none
   |!(false,g2)=>qz T1 c1 T it c e last l g2
   |!(true,g2)=>match cN rn bor k T.iC it g2 with
    |none=>none
    |!(items,g3)=>match zS rn bor k T last c e items g3 with
     |none=>none
     |some g4=>qz T1 c1 T it c e last l g4
def iD(n kk:Nat)(T1:Tg)(lU:Ex)(c1:Option Ex)(T:Tg)(it:Ex)(c:Option Ex)(e:Ex)(g:G):Option (List D×G):=match cN rn bor k T1.iC lU g with
 |none=>none
 |!(items,g1)=>if g1.length=n/\((T1.ix++T.ix).any λi=>decide (i∈bor))=false then match qz rn bor k T1 c1 T it c e (n+kk) items (gC kk g1)with
   |none=>none
   |some gE=>match gE[n+kk]? with
    |!(.own acc)=>!(acc,gE.take n)
    |_=>none
  else none
def Xc(T:Tg)(c:Option Ex)(e:Ex):List D->List Nk.Pn->G->Option (List Nk.Pn×G)
 | [],ks,g=>!(ks,g)
 |d::l,ks,g=>match T.set d g with
  |none=>none
  |some g1=>match nP rn bor k c g1 with
   |none=>none
   |!(false,g2)=>Xc T c e l ks g2
   |!(true,g2)=>match fT rn bor k e g2 with
    |!(.tup m,g3)=>match Nk.pnT m with
     |some key=>if ks.length<1000 then Xc T c e l (Nk.fF ks key) g3 else none
     |none=>none
    |_=>none
def lX(n kk:Nat)(T:Tg)(it:Ex)(c:Option Ex)(e:Ex)(g:G):Option (List Nk.Pn×G):=match cN rn bor k T.iC it g with
 |none=>none
 |!(items,g1)=>if g1.length=n/\(T.ix.any λi=>decide (i∈bor))=false then match Xc rn bor k T c e items [] (gD kk g1)with
   |none=>none
   |!(ks,gE)=>if Nk.K1 ks=true then some (ks,gE.take n)else none
  else none
def aX(fx:Fx)(k':Nat)(rs:List R)(g1:G):Option (R×G):=
 if rs.length=fx.np/\((vars 0 rs).map (·.2)).Nodup then match dF rs g1 with
  |none=>none
  |some gs=>match rn.b ((vars 0 rs).map (·.1)) k' fx.body (fB fx.n gs)with
   |!(.rt r,gc)=>match back (vars 0 rs) gc g1 with
    |some gO=>match jM ((vars 0 rs).map (·.1)) gc r with |some r'=>!(r',gO) |none=>none
    |none=>none
   |!(.nx,gc)=>match back (vars 0 rs) gc g1 with
    |some gO=>!(.dat .non,gO)
    |none=>none
   |_=>none
 else none
def bL(fns:List Fx)(e:Ex)(g:G):Option (R×G):=match e with
 |.val d=>!(.dat d,g)
 |.slot i=>match g[i]? with |!(.dat d)=>!(.dat d,g) |!(.own _)=>!(.var i,g) |_=>none
 |.bin op a b=>match argsR rn bor k [a,b] g with
  |!([r1,r2],g2)=>match pk r1 g2,pk r2 g2 with
   |!d1,!d2=>match nO op d1 d2 with |some r=>!(r,g2) |none=>none
   |_,_=>none
  |_=>none
 |.cmp op a b=>match argsR rn bor k [a,b] g with
  |!([r1,r2],g2)=>match pk r1 g2,pk r2 g2 with
   |!d1,!d2=>match cY op d1 d2 with |some c=>!(.dat (.bl c),g2) |none=>none
   |_,_=>none
  |_=>none
 |.chain a ops l=>match fT rn bor k a g with
  |!(d1,g1)=>match Xa rn bor k d1 ops l g1 with |!(c,g2)=>!(.dat (.bl c),g2) |none=>none
  |none=>none
 |.not a=>match rn.e bor k a g with |!(.dat (.bl c),g1)=>!(.dat (.bl ((not c))),g1) |_=>none
 |.and l=>K8 rn bor k l g
 |.or l=>orF rn bor k l g
 |.ite c a b=>match rn.t bor k c g with
  |!(true,g1)=>rn.e bor k a g1
  |!(false,g1)=>rn.e bor k b g1
  |none=>none
 |.tup l=>match qy rn bor k l g with |!(ds,g1)=>if ds.length<=lim then some (.dat (.tup ds),g1)else none |none=>none
 |.lst l=>match qy rn bor k l g with |!(ds,g1)=>if ds.length<=lim then some (.new ds,g1)else none |none=>none
 |.ix a b=>match argsR rn bor k [a,b] g with
  |!([r1,r2],g2)=>match pk r1 g2,pk r2 g2 with
   |!d1,!d2=>match CV d1 d2 with |some d=>!(.dat d,g2) |none=>none
   |_,_=>none
  |_=>none
 |.slice a lo hi=>match rn.e bor k a g with
  |!(r,g1)=>match xO rn bor k lo g1 with
   |!(i,g2)=>match xO rn bor k hi g2 with
    |!(j,g3)=>match norm r with
     |.dat (.tup l)=>!(.dat (.tup (jA l i j)),g3)
     |.dat (.fix l)=>!(.new (jA l i j),g3)
     |r'=>match pk r' g3 with |!(.lst l)=>!(.new (jA l i j),g3) |_=>none
    |none=>none
   |none=>none
  |none=>none
 |.call f l=>match fns[f]?,k with
  |!fx,k'+1=>match argsR rn bor k l g with
   |!(rs,g1)=>aX rn fx k' rs g1
   |none=>none
  |_,_=>none
 |.blt b l=>match argsR rn bor k l g with
  |!(rs,g1)=>match rO rs g1 with
   |some ds=>match jH b ds with |some r=>!(r,g1) |none=>none
   |none=>none
  |none=>none
 |.K4 a n=>match rn.e bor k a g with
  |!(r,g1)=>match pk (norm r) g1 with |some d=>!(.dat (.bl (qx (Hu d) n)),g1) |none=>none
  |none=>none
 |.comp n kk T it c e=>match bS rn bor k n kk T it c e g with |!(acc,g1)=>!(.new acc,g1) |none=>none
 |.dG n kk T1 lU c1 T it c e=>match iD rn bor k n kk T1 lU c1 T it c e g with |!(acc,g1)=>!(.new acc,g1) |none=>none
 |.tH n kk T it c e=>match lX rn bor k n kk T it c e g with |!(ks,g1)=>!(.new ((aN Nk.fM (ks.map (·.1))).map Hy),g1) |none=>none
 |.append i e=>match g[i]? with
  |!(.own _)=>match fT rn bor k e g with
   |!(d,g1)=>match g1[i]? with |!(.own l)=>if l.length<lim then some (.dat .non,g1.set i (.own (l++[d])))else none |_=>none
   |none=>none
  |_=>none
 |.extend i e=>match g[i]? with
  |!(.own _)=>match fT rn bor k e g with
   |!(.lst m,g1)=>match g1[i]? with |!(.own l)=>if l.length+m.length<=lim then some (.dat .non,g1.set i (.own (l++m)))else none |_=>none
   |_=>none
  |_=>none
 |.tK i e=>match g[i]? with
  |!(.own _)=>match fT rn bor k e g with
   |!(.int j,g1)=>match g1[i]? with
    |!(.own l)=>match rL l.length j with
     |some n=>match l[n]? with |some d=>if l.length<lim then some (.dat d,g1.set i (.own (l.eraseIdx n)))else none |none=>none
     |none=>none
    |_=>none
   |_=>none
  |_=>none
 |.cz _=>none
 |.eO _ _=>none
 |.enum _=>none
 |.qw a=>match rn.e bor k a g with
  |!(r,g1)=>match pk (norm r) g1 with
   |!(.lst l)=>(match bH l with |some ns=>if ns.length<64 then some (.new ((bO ns).reverse.map .int),g1)else none |none=>none)
   |_=>none
  |none=>none
 |.minD a=>match rn.e bor k a g with
  |!(r,g1)=>match pk (norm r) g1 with
   |some d=>match tG d with
    |some x=>!(.dat x,g1)
    |none=>none
   |none=>none
  |none=>none
 |.xM a=>match fT rn bor k a g with
  |!(.int j,g1)=>if QM j=true/\j.toNat<=lim then some (.new (bQ 0 j.toNat),g1)else none
  |_=>none
def stepT(e:Ex)(g:G):Option (Bool×G):=match e with
 |.cmp op a b=>match argsR rn bor k [a,b] g with
  |!([r1,r2],g2)=>match pk r1 g2,pk r2 g2 with
   |!d1,!d2=>match cY op d1 d2 with |some c=>!(c,g2) |none=>none
   |_,_=>none
  |_=>none
 |.chain a ops l=>match fT rn bor k a g with
  |!(d1,g1)=>Xa rn bor k d1 ops l g1
  |none=>none
 |.not a=>match rn.t bor k a g with |!(c,g1)=>!((not c),g1) |none=>none
 |.and l=>xN rn bor k l g
 |.or l=>K9 rn bor k l g
 |.ite _ _ _=>none
 |e=>match rn.e bor k e g with
  |!(r,g1)=>match pk (norm r) g1 with
   |some d=>match PX d with |some c=>!(c,g1) |none=>none
   |none=>none
  |none=>none
def kP(T:Tg)(b:G->Option (Fl×G)):List D->G->Option (Fl×G)
 | [],g=>!(.nx,g)
 |d::l,g=>match T.set d g with
  |none=>none
  |some g0=>match b g0 with
   |none=>none
   |!(.nx,g1)=>kP T b l g1
   |!(.ct,g1)=>kP T b l g1
   |!(.bk,g1)=>!(.nx,g1)
   |!(.rt r,g1)=>!(.rt r,g1)
noncomputable def TV(c:G->Option (Bool×G))(b:G->Option (Fl×G)):Nat->G->Option (Fl×G)
 | 0,_=>none
 |n+1,g=>match c g with
  |none=>none
  |!(false,g1)=>!(.nx,g1)
  |!(true,g1)=>match b g1 with
   |none=>none
   |!(.nx,g2)=>TV c b n g2
   |!(.ct,g2)=>TV c b n g2
   |!(.bk,g2)=>!(.nx,g2)
   |!(.rt r,g2)=>!(.rt r,g2)
def aA(st:Sm)(g:G):Option (Fl×G):=match st with
 |.ret e=>match rn.e bor k e g with |!(r,g1)=>!(.rt r,g1) |none=>none
 |.expr e=>match rn.e bor k e g with |!(_,g1)=>!(.nx,g1) |none=>none
 |.set i e=>if i∈bor then none else match rn.e bor k e g with
  |!(.new l,g1)=>if i<g1.length then some (.nx,g1.set i (.own l))else none
  |!(r,g1)=>match toD bor r g1 with |!(d,g2)=>!(.nx,g2.set i (.dat d)) |none=>none
  |none=>none
 |.setC i e=>if i∈bor then none else match e with
  |.comp n kk T it c e=>match bS rn bor k n kk T it c e g with
   |!(acc,g1)=>if i<g1.length then some (.nx,g1.set i (.own acc))else none
   |none=>none
  |.dG n kk T1 lU c1 T it c e=>match iD rn bor k n kk T1 lU c1 T it c e g with
   |!(acc,g1)=>if i<g1.length then some (.nx,g1.set i (.own acc))else none
   |none=>none
  |_=>none
 |.tgt T e=>if T.ix.any (λi=>decide (i∈bor))=true then none else match fT rn bor k e g with
  |!(d,g1)=>match T.set d g1 with |some g2=>!(.nx,g2) |none=>none
  |none=>none
 |.item i j e=>match fT rn bor k e g with
  |!(d,g1)=>match g1[i]? with
   |!(.own _)=>match fT rn bor k j g1 with
    |!(.int n,g2)=>match g2[i]? with
     |!(.own l)=>match rL l.length n with |some m=>!(.nx,g2.set i (.own (l.set m d))) |none=>none
     |_=>none
    |_=>none
   |_=>none
  |none=>none
 |.par i j a b=>if i∈bor then none else if j∈bor then none else match qy rn bor k [a,b] g with
  |!([d1,d2],g1)=>!(.nx,(g1.set i (.dat d1)).set j (.dat d2))
  |_=>none
 |.ite c a b=>match rn.t bor k c g with
  |!(true,g1)=>rn.b bor k a g1
  |!(false,g1)=>rn.b bor k b g1
  |none=>none
 |.loop T it b=>if T.ix.any (λi=>decide (i∈bor))=true then none else match cN rn bor k T.iC it g with
  |!(items,g1)=>kP T (rn.b bor k b) items g1
  |none=>none
 |.while c b=>TV (rn.t bor k c) (rn.b bor k b) 100000 g
 |.rows im it iy ia ib=>match g[im]?,g[it]? with
  |!‹m›,!(.dat (.tup aj))=>match g[iy]?,g[ia]?,g[ib]? with
   |some .no,some .no,some .no=>if 0<=m/\m<=1000 then match iT aj (List.replicate m.toNat [])with |some ll=>!(.rt (.dat (.lst (ll.map .lst))),g) |none=>none else none
   |_,_,_=>none
  |_,_=>none
 |.stuck=>none
def cP:List Sm->G->Option (Fl×G)
 | [],g=>!(.nx,g)
 |st::aD,g=>match aA rn bor k st g with
  |!(.nx,g1)=>cP aD g1
  |!(f,g1)=>!(f,g1)
  |none=>none
end
noncomputable def xArgs(rn:Rn)(bor:List Nat)(k:Nat)(l:List Ex)(g:G):Option (Nat×G):=none
noncomputable def La(rn:Rn)(bor:List Nat)(k:Nat)(fns:List Fx)(e:Ex)(g:G):Option (Nat×G):=none
def zV(rn:Rn)(bor:List Nat)(k:Nat)(e:Ex)(g:G):Option (Nat×G):=none
noncomputable def Xd(rn:Rn)(bor:List Nat)(k:Nat)(st:Sm)(g:G):Option (Nat×G):=none
noncomputable def zW(rn:Rn)(bor:List Nat)(k:Nat)(l:List Sm)(g:G):Option (Nat×G):=none
def step(fns:List Fx)(rn:Rn):Rn:=#[λbor k e g=>bL rn bor k fns e g,λbor k e g=>stepT rn bor k e g,λbor k l g=>cP rn bor k l g,λbor k e g=>La rn bor k fns e g,λbor k e g=>zV rn bor k e g,λbor k l g=>zW rn bor k l g]
noncomputable def rn0:Rn:=#[λ_ _ _ _=>none,λ_ _ _ _=>none,λ_ _ _ _=>none,λ_ _ _ _=>none,λ_ _ _ _=>none,λ_ _ _ _=>none]
def run(fns:List Fx):Nat->Rn
 | 0=>rn0
 |n+1=>step fns (run fns n)
structure Ct where
 N:List Str
 sc:Scope
 df:Bool
 q:Str
structure Fi where
 name:Str
 qual:Str
 st:Stmt
 N:List Str
 ps:List Str
structure Pg where
 fn:List Fi
 ct:List (Str×D)
 bn:List Str
 cls:List Str:=[]
 lam:Bool:=false
 TX:List Addr:=[]
 kt:Str:=Str.empty
 ups:List (Str×List (Addr×Bool)):=[]
def Xe(K:Frag)(mg:Str->Option Value)(n:Str)(gj:Value):Prop:=
 ∃c q,gj=.ref c/\(∀b:Heap,K.In b->PySem.W.CodeHd b c q)/\(q,Iw n)∈fh K/\(∀b:Heap,K.In b->b.BuiltinsAt mg q)/\mainGlobals≠q/\∀p∈fh K,p.1=q->p.2=Iw n
structure Gu(P:Pg)(K:Frag)(mg:Str->Option Value):Prop where
 fn:∀(i:Nat) (fi:Fi),P.fn[i]?=!fi->∃f fd,mg fi.name=!(.ref f)/\Fun K fi.name fi.qual fi.st f fd/\fQ fi.N fi.ps (aR fi.st)/\L2.Binds K fd fi.ps []/\(fi.name==(~~~3))=false
 ct:∀(x:Str) (d:D),(x,d)∈P.ct->(x==(~~~3))=false/\∃v u,mg x=!u/\RelV v u/\∀M H,Rep K M H d v
 bn:∀x∈P.bn,mg x=none
 cls:∀x∈P.cls,(x==(~~~3))=false/\∃C,mg x=!(.ref C)/\Fv K C
 lam:P.lam=true->∀n∈wu,∀gj,PySem.W.codeIn K gj n=true->Xe K mg n gj
 TX:∀(i:Nat) (C:Addr),P.TX[i]?=!C->∃x,P.cls[i]?=!x/\mg x=!(.ref C)/\Fv K C/\ExK K C
 kt:P.lam=true->(P.kt==(~~~3))=false/\∃D,mg P.kt=!(.ref D)/\Fv K D/\∀C∈P.TX,upIn K C D=true
 ups:∀(x:Str) (l:List (Addr×Bool)),(x,l)∈P.ups->(x==(~~~3))=false/\∃cv,((mg x=!cv/\∃D,cv=.ref D)\/(x∈P.bn/\x≠ "__name__" /\bootBuiltins x=!cv/\∃n,cv=.type n))/\PySem.W.kitOne K (.type "NoneType") cv=!false/\∀C b,l.lookup C=!b->PySem.W.kitOne K (.ref C) cv=!b
structure bz(P:Pg)(k:Nat)(X:Cx)(c:Ct):Prop where
 N:X.N=c.N
 nd:c.N.Nodup
 TY:∀x,c.sc.names.lookup x=some .local->X.env.scope.names.lookup x=some .local
 CW:∀x,c.sc.names.lookup x=some .globalImplicit->Gl X x
 fre:∀x,c.sc.names.lookup x=some .cell\/c.sc.names.lookup x=some .free->X.env.scope.names.lookup x=some .cell\/X.env.scope.names.lookup x=some .free
 cel:c.df=true->∀x,c.sc.names.lookup x=some .cell->X.env.scope.names.lookup x=some .cell
 fn:∀x,c.df=true\/c.sc.names.lookup x=some .local->X.fn x=true
 bk:c.df=true->X.env.blockKind=.function
 calm:X.calm=true
 xe:X.xe=λ_ _=>False
 md:Gu P X.K X.mg
 room:iK k X.A
 lam:c.q∈wu->P.lam=true->X.env.qual ++ "<lambda>"=Iw c.q/\Xe X.K X.mg c.q X.env.code
noncomputable def xP(sc:Scope)(x:Str):Bool:=match sc.names.lookup x with |some .local=>true |some .cell=>true |some .free=>true |_=>false
noncomputable def gw(c:Ct)(x:Str):Bool:=match c.sc.names.lookup x with |some .local=>true |some .cell=>c.df |_=>false
noncomputable def eS(x:Str):Bool:=(not ((x==(~~~3))))&&(not ((x==("__classdict__":Str))))
section
theorem bz.vis(h:bz P k X c)(hv:xP c.sc x=true):oH X.env.scope x:=by
 unfold xP at hv;split at hv
 . rename_i e;exact .inl (h.TY x e)
 . rename_i e;exact (h.fre x (.inl e)).elim (λq=>.inr (.inl q)) λq=>.inr (.inr q)
 . rename_i e;exact (h.fre x (.inr e)).elim (λq=>.inr (.inl q)) λq=>.inr (.inr q)
 . cases hv
theorem bz.nm(h:bz P k X c)(hi:c.N[i]?=!x)(hs:gw c x=true):uL X x i:=by
 refine#[h.N▸h.nd,by rw[h.N];exact hi,?_,.inl (h.fn x ?_)]
 .
  unfold gw at hs;split at hs
  . rename_i e;exact .inl (h.TY x e)
  . rename_i e;exact .inr (h.cel hs x e)
  . cases hs
 .
  unfold gw at hs;split at hs
  . rename_i e;exact .inr e
  . exact .inl hs
  . cases hs
theorem cQ(h:eS x=true):(x==(~~~3))=false/\(x==("__classdict__":Str))=false:=by unfold eS at h;simp only[eM,Bool.not_eq_true']at h;exact h
theorem dh{α:Type}{f:Int->Int->Option α}{a b:D}{r:α}(h:lV f a b=!r):∃i j,a=.int i/\b=.int j/\f i j=!r:=by
 unfold lV at h;split at h
 .
  split at h
  . exact#[_,_,rfl,rfl,h]
  . symm
 . symm
theorem QS{d1 d2:D}{r:R}(hK:z.K=X.K)(h:K6 d1 d2=!r):lH X z (binaryOp .Add) d1 d2 r:=by
 unfold K6 at h;split at h
 .
  split at h
  . symm;exact BJ UW
  . symm
 .
  split at h
  .
   split at h
   . rename_i hc;symm;exact VM hc
   . symm
  . symm
 .
  split at h
  .
   split at h
   . rename_i hc;symm;exact O9 hK hc
   . symm
  . symm
 . symm
theorem Lb:lB X (binaryOp .FloorDiv) (rI (λ_ j=>0<j/\j<18446744073709551616) λi j=>.int (i / j)):=opI λi j _ _ _ _ _ hc q=>by
 have h1:0<j/\j<18446744073709551616:=hc;refine floordiv_int ⋯ (by rw[Int.fdiv_eq_ediv_of_nonneg i ⋯];exact q) (.inl (PyProof.noPylong_of_log2 ?_))
 have h2:j.natAbs.log2<64:=(Nat.log2_lt ⋯).mpr (by show _<18446744073709551616;lia)
 lia
theorem QT{d1:D}{k:Int}{r:R}(hK:z.K=X.K)(h:K7 d1 k=!r):lH X z (binaryOp .Mult) d1 (.int k) r:=by
 unfold K7 at h;split at h
 .
  split at h
  . rename_i hc;symm;refine uI U1 ?_;unfold K5 at hc;simp only[wT,eM,l9]at hc;exact hc
  . symm
 .
  split at h
  . rename_i hc;symm;exact VN hc.1 hc.2.1 hc.2.2
  . symm
 . symm
theorem Xf(hK:z.K=X.K)(h:nO op d1 d2=!r):lH X z (binaryOp op) d1 d2 r:=by
 cases op with
 |Add=>exact QS hK h
 |Sub=>obtain⟨i,j,rfl,rfl,h'⟩:=dh h;cases h';exact BJ U0
 |Mult=>
  dsimp only[nO]at h;split at h
  . exact QT hK h
  . symm
 |FloorDiv=>
  obtain⟨i,j,rfl,rfl,h'⟩:=dh h;split at h'
  . rename_i hc;cases h';exact uI Lb hc
  . cases h'
 |Mod=>
  obtain⟨i,j,rfl,rfl,h'⟩:=dh h;split at h'
  . rename_i hc;cases h';exact uI U3 hc
  . cases h'
 |Pow=>
  obtain⟨i,j,rfl,rfl,h'⟩:=dh h;split at h'
  . rename_i hc;cases h';exact uI uz #[hc.1,by have:=hc.2.1;lia,hc.2.2]
  . cases h'
 |_=>symm
theorem qA(hK:z.K=X.K)(hr:iK k X.A)(h:cY op d1 d2=!b):lH X z (compareOp op) d1 d2 (.dat (.bl b)):=by
 have hu:=hr.un;cases op with
 |Eq=>
  dsimp only[cY]at h;split at h
  . rename_i hc;symm;simp only[lW,eM]at hc;exact od_eq hK hc.1.1 hc.1.2 (by have:=hc.2;lia)
  . symm
 |NotEq=>
  dsimp only[cY]at h;split at h
  . rename_i hc;symm;simp only[lW,eM]at hc;exact od_ne hK hc.1.1 hc.1.2 (by have:=hc.2;lia)
  . symm
 |Lt=>
  dsimp only[cY,ltF]at h;split at h
  .
   split at h
   . symm;exact uJ Z0
   . symm
  .
   split at h
   .
    split at h
    .
     rename_i h1;split at h
     . rename_i h2;symm;exact V1 hK ⋯ h1 h2
     . symm
    . symm
   . symm
  . symm
 |LtE=>obtain⟨i,j,rfl,rfl,h'⟩:=dh h;cases h';exact uJ Z1
 |Gt=>obtain⟨i,j,rfl,rfl,h'⟩:=dh h;cases h';exact uJ Z2
 |GtE=>obtain⟨i,j,rfl,rfl,h'⟩:=dh h;cases h';exact uJ Z3
 |In=>
  dsimp only[cY]at h;split at h
  .
   rename_i hs;split at h
   . rename_i hc;symm;simp only[rR,eM]at hc;exact od_in hK hs hc.1.1 hc.1.2 (by have:=hc.2;lia)
   . symm
  . symm
 |NotIn=>
  dsimp only[cY]at h;split at h
  .
   rename_i hs;split at h
   . rename_i hc;symm;simp only[rR,eM]at hc;exact Ji hK hs hc.1.1 hc.1.2 (by have:=hc.2;lia)
   . symm
  . symm
 |Is=>
  dsimp only[cY,isF]at h;split at h
  . symm;exact od_is
  . symm;exact VL
  . symm
 |IsNot=>
  dsimp only[cY]at h;unfold isF at h;split at h
  .
   rename_i e;split at e
   . cases e;symm;exact Jk
   . cases e;symm;exact O8
   . cases e
  . symm
theorem Xg(hK:z.K=X.K)(hr:X.A.units+1<cLine)(h:CV d1 d2=!d):IxD X z d1 d2 (.dat d):=by
 unfold CV at h;split at h
 . exact VR hK h
 . exact V0 hK h
 . exact Pa hK h
 . symm
noncomputable def blV:Bl->Str×Value
 |.len=>("len",.builtin "len")
 |.list=>("list",.type "list")
 |.tuple=>("tuple",.type "tuple")
 |.max=>("max",.builtin "max")
 |.min=>("min",.builtin "min")
 |.str=>("str",.type "str")
 |.all=>("all",.builtin "all")
 |.any=>("any",.builtin "any")
 |.int=>("int",.type "int")
 |.sorted=>("sorted",.builtin "sorted")
 |.sum=>("sum",.builtin "sum")
theorem Xh{b:Bl}{d:D}{r:R}(hK:z.K=X.K)(hc:X.calm=true)(hr:X.A.units+6<cLine)(h:QL b d=!r):CallD X z (blV b).2 [d] r:=by
 cases b <;> dsimp only[QL]at h
 case len=>
  split at h
  . rename_i e;symm;exact V2 hK e
  . symm
 case list=>
  split at h
  . rename_i e;symm;exact Pb hK e
  . symm
 case tuple=>
  split at h
  . rename_i e;symm;exact Jo hK e
  . symm
 case min=>
  split at h
  .
   rename_i e1;split at h
   . rename_i e4;symm;exact Qg hc hr hK e1 e4
   . symm
  . symm
 case all=>
  split at h
  .
   split at h
   . rename_i e;symm;exact V5 hc e
   . symm
  . symm
 case int=>
  split at h
  . symm;exact WK
  . symm
 case sorted=>
  split at h
  .
   split at h
   .
    rename_i e2;split at h
    . rename_i e3;symm;exact Fj hK e2 e3
    . symm
   .
    split at h
    .
     rename_i e2;split at h
     . rename_i e3;symm;exact zF hK e2 e3
     . symm
    . symm
  . symm
 case sum=>
  split at h
  .
   rename_i e1;split at h
   . rename_i e2;symm;exact Wt hc hK e1 e2
   . symm
  . symm
 all_goals symm
theorem Xi{b:Bl}{ds:List D}{r:R}(hK:z.K=X.K)(hc:X.calm=true)(hr:X.A.units+6<cLine)(h:jH b ds=!r):CallD X z (blV b).2 ds r:=by
 unfold jH at h;split at h
 . exact Xh hK hc hr h
 .
  cases b with
  |max=>obtain⟨i,j,rfl,rfl,h'⟩:=dh h;cases h';exact V3 hc
  |min=>obtain⟨i,j,rfl,rfl,h'⟩:=dh h;cases h';exact V4 hc
  |_=>symm
 . symm
noncomputable def zX:List String:=["int", "bool", "str", "tuple", "list", "dict"]
theorem Lc{K:Frag}{M:List Addr}{H:Hp}{v:V}{d:D}(p:Pk K M H d v){n:String}(hn:n∈zX):PySem.W.kitOne K (tyW d) (.type n)=!(qx (Hu d) n):=by
 cases d with
 |Iv C=>
  cases p with
  |of q=>
   cases q with
   |Iv k _ _=>refine (k.kit n hn).trans ?_;unfold zX at hn;simp only[eJ,nV,A9]at hn;rcases hn with rfl |rfl |rfl |rfl |rfl |rfl <;> first |rfl |decide
 |_=>unfold zX at hn;simp only[eJ,nV,A9]at hn;rcases hn with rfl |rfl |rfl |rfl |rfl |rfl <;> first |rfl |decide
end
noncomputable def zY(sc scope:Scope):Bool:=decide (scope.kind=.function)&&scope.names.all λy=>decide (y.2≠.cell)&&(decide (y.2≠.local)||decide (scope.names.lookup y.1=some .local)) &&
 (decide (y.2≠.free)||(decide (scope.names.lookup y.1=some .free)&&(decide (sc.names.lookup y.1=some .cell)||decide (sc.names.lookup y.1=some .free))))
noncomputable def jT(N N':List Str)(scope:Scope)(k:Nat):Bool:=decide (N'.length=N.length+(k+1))&&(match N'[N.length+k]? with |some x=>decide (scope.names.lookup x=none) |none=>true) &&
 (List.range N.length).all λi=>match N'[i]? with |some x=>decide (scope.names.lookup x=none)||(decide (N[i]?=!x)&&decide (scope.names.lookup x≠some .local)) |none=>true
inductive Gv(c:Ct):List Expr->List Nat->Prop
 |nil:Gv c [] []
 |cons {x:Str}{i:Nat}{pos:Pos}{es:List Expr}{is:List Nat}:c.N[i]?=!x->gw c x=true->Gv c es is->Gv c (.Name x pos::es) (i::is)
inductive Ld(P:Pg)(c:Ct):List Expr->List String->Prop
 |nil:Ld P c [] []
 |cons {T:Str}{n:String}{pos:Pos}{es:List Expr}{ns:List String}:T∈P.bn->c.sc.names.lookup T=some .globalImplicit->T=Str.ofString n->n∈zX->Ld P c es ns->Ld P c (.Name T pos::es) (n::ns)
inductive Gw(c:Ct):Expr->Tg->Prop
 |nm:c.N[i]?=!x->gw c x=true->Gw c (.Name x pos) (.nm i)
 |tp:Gv c es is->Gw c (.Tuple es k pos) (.tp is)
noncomputable def Xj(c:Ct)(x y:Str)(px py:Pos)(a b:Expr):Bool:=(c.sc.names.lookup x==some .local)&&(c.sc.names.lookup y==some .local)&&py.line==px.line&&(not (x==y))&&(not (foldedForSure 8 a&&foldedForSure 8 b))&&(not (constantsAlone 8 a&&constantsAlone 8 b))&&c.df
noncomputable def QV(c:Ct)(y:Str)(py pos:Pos)(scope:Scope):Bool:=(c.sc.names.lookup y==some .local)&&py.line==pos.line&&(not ((scope.names.any λ(n,k)=>n==y&&(k==.local||k==.cell))))
noncomputable def nmW(e:Expr):Option Str:=match e with |.Name x _=>!x |_=>none
noncomputable def tpN(n:Nat)(e:Expr):Bool:=match e with |.Tuple vs _ _=>decide (vs.length=n) |_=>false
def celN(c:Ct)(a:Expr):Bool:=match nmW a with |some x=>decide (c.sc.names.lookup x=some .cell) |none=>false
def QW(c:Ct)(es:List Expr)(e:Expr):Bool:=tpN es.length e&&(c.df&&es.any (celN c))
inductive zZ(R:Expr->Ex->Prop):List Expr->List Ex->Prop
 |nil:zZ R [] []
 |cons {e:Expr}{es:List Expr}{x:Ex}{xs:List Ex}:R e x->zZ R es xs->zZ R (e::es) (x::xs)
inductive QX(R:Expr->Ex->Prop):Option Expr->Option Ex->Prop
 |none:QX R Option.none Option.none
 |some {e:Expr}{x:Ex}:R e x->QX R (Option.some e) (Option.some x)
inductive CZ(R:Expr->Ex->Prop):List Expr->Option Ex->Prop
 |none:CZ R [] Option.none
 |some {e:Expr}{x:Ex}:R e x->CZ R [e] (Option.some x)
inductive z7(P:Pg)(R:Expr->Ex->Prop)(c:Ct):Expr->Ex->Prop
 |seq:R e x->z7 P R c e x
 |cz:R a xa->("range":Str)∈P.bn->c.sc.names.lookup ("range":Str)=some .globalImplicit->z7 P R c (.Call (.Name "range" p) [a] [] pos) (.cz xa)
 |eO:R a xa->R b xb->("range":Str)∈P.bn->c.sc.names.lookup ("range":Str)=some .globalImplicit->z7 P R c (.Call (.Name "range" p) [a,b] [] pos) (.eO xa xb)
 |enum:R a xa->("enumerate":Str)∈P.bn->c.sc.names.lookup ("enumerate":Str)=some .globalImplicit->z7 P R c (.Call (.Name "enumerate" p) [a] [] pos) (.enum xa)
noncomputable def QZ(e:Expr):Option Str:=match e with |.Name x _=>!x |_=>none
theorem u6{e:Expr}{x:Str}(h:QZ e=!x):∃p,e=.Name x p:=by cases e <;> first | (symm;exact#[_,rfl]) |symm
noncomputable def Le{α:Type}(l:List α):Option α:=match l with | [a]=>!a |_=>none
theorem oh{α:Type}{l:List α}{a:α}(h:Le l=!a):l=[a]:=by
 cases l with
 |nil=>symm
 |cons b l=>cases l with
  |nil=>symm;rfl
  |cons _ _=>symm
noncomputable def asgV(s:Stmt):Option (List Expr×Expr):=match s with |.Assign ts e _=>!(ts,e) |_=>none
theorem Q5{s:Stmt}{r:List Expr×Expr}(h:asgV s=!r):∃p,s=.Assign r.1 r.2 p:=by cases s <;> first | (symm;exact#[_,rfl]) |symm
noncomputable def cstV(e:Expr):Option Const:=match e with |.Constant c _ _=>!c |_=>none
theorem Q6(h:cstV e=!c):∃j p,e=.Constant c j p:=by cases e <;> first | (symm;exact#[_,_,rfl]) |symm
noncomputable def nonV(c:Const):Option Unit:=match c with |.none=>!() |_=>none
theorem Q7(h:nonV c=!()):c=.none:=by cases c <;> first |rfl |symm
noncomputable def expV(s:Stmt):Option Expr:=match s with |.Expr e _=>!e |_=>none
theorem Q8{s:Stmt}{e:Expr}(h:expV s=!e):∃p,s=.Expr e p:=by cases s <;> first | (symm;exact#[_,rfl]) |symm
noncomputable def calV(e:Expr):Option (Expr×List Expr×List Keyword):=match e with |.Call f as ks _=>!(f,as,ks) |_=>none
theorem Q9{e:Expr}{r:Expr×List Expr×List Keyword}(h:calV e=!r):∃p,e=.Call r.1 r.2.1 r.2.2 p:=by cases e <;> first | (symm;exact#[_,rfl]) |symm
noncomputable def tryV(s:Stmt):Option (List Stmt×List ExceptHandler×List Stmt×List Stmt):=match s with |.Try b h o f _=>!(b,h,o,f) |_=>none
theorem Ra{s:Stmt}{r:List Stmt×List ExceptHandler×List Stmt×List Stmt}(h:tryV s=!r):∃p,s=.Try r.1 r.2.1 r.2.2.1 r.2.2.2 p:=by cases s <;> first | (symm;exact#[_,rfl]) |symm
noncomputable def Lf{α:Type}(l:List α):Option Unit:=match l with | []=>!() |_=>none
theorem oq{α:Type}{l:List α}(h:Lf l=!()):l=[]:=by cases l with |nil=>rfl |cons _ _=>symm
noncomputable def hanV(h:ExceptHandler):Option (Expr×Str×List Stmt):=match h with |.ExceptHandler t n b _=>t.bind λt=>n.bind λn=>!(t,n,b)
theorem Rb{h:ExceptHandler}{r:Expr×Str×List Stmt}(e:hanV h=!r):∃p,h=.ExceptHandler (!r.1) (!r.2.1) r.2.2 p:=by
 obtain⟨t,n,b,p⟩:=h;cases t with
 |none=>cases e
 |some t=>cases n with
  |none=>cases e
  |some n=>cases e;exact#[p,rfl]
def Dc(s:Stmt):Option (Str×Expr):=(asgV s).bind λr=>(Le r.1).bind λt=>(QZ t).bind λx=>!(x,r.2)
theorem xQ{s:Stmt}{r:Str×Expr}(h:Dc s=!r):∃p q,s=.Assign [.Name r.1 p] r.2 q:=by unfold Dc at h;simp only[i3]at h;obtain⟨⟨ts,e⟩,h1,t,h2,x,h3,h4⟩:=h;cases h4;obtain⟨p,rfl⟩:=Q5 h1;obtain⟨q,rfl⟩:=u6 h3;have:=oh h2;subst this;exact#[q,p,rfl]
def Xk(l:List Stmt):Option Str:=(Le l).bind λs3=>(expV s3).bind λce=>(calV ce).bind λf=>(Lf f.2.1).bind λ_=>(Lf f.2.2).bind λ_=>QZ f.1
theorem calS_ok{l:List Stmt}{y:Str}(h:Xk l=!y):∃py cp ep,l=[.Expr (.Call (.Name y py) [] [] cp) ep]:=by replace h:=i3.1 h;obtain⟨s3,h1,h⟩:=h;cases oh h1;clear h1;replace h:=i3.1 h;obtain⟨ce,h1,h⟩:=h;obtain⟨p,e1⟩:=Q8 h1;cases e1;clear h1;replace h:=i3.1 h;obtain⟨⟨f1,f2,f3⟩,h1,h⟩:=h;obtain⟨q,e1⟩:=Q9 h1;cases e1;clear h1;replace h:=i3.1 h;obtain⟨_,h1,h⟩:=h;replace h:=i3.1 h;obtain⟨_,h2,h⟩:=h;obtain⟨r,e1⟩:=u6 h;exact#[r,q,p,by have a:=oq h1;have b:=oq h2;dsimp only at a b e1 ⊢;rw[a,b,e1]]
def Xl(l:List ExceptHandler):Option (Str×Str×Str×Str):=(Le l).bind λhh=>(hanV hh).bind λu=>(QZ u.1).bind λke=>(Le u.2.2).bind λs4=>(Dc s4).bind λb=>(QZ b.2).bind λen'=>!(ke,u.2.1,b.1,en')
theorem hanS_ok{l:List ExceptHandler}{r:Str×Str×Str×Str}(h:Xl l=!r):∃kp erp enp ap hp,l=[.ExceptHandler (!(.Name r.1 kp)) (!r.2.1) [.Assign [.Name r.2.2.1 erp] (.Name r.2.2.2 enp) ap] hp]:=by replace h:=i3.1 h;obtain⟨hh,h1,h⟩:=h;cases oh h1;clear h1;replace h:=i3.1 h;obtain⟨⟨u1,u2,u3⟩,h1,h⟩:=h;obtain⟨p,e1⟩:=Rb h1;cases e1;clear h1;replace h:=i3.1 h;obtain⟨ke,h1,h⟩:=h;obtain⟨q,e1⟩:=u6 h1;cases e1;clear h1;replace h:=i3.1 h;obtain⟨s4,h1,h⟩:=h;cases oh h1;clear h1;replace h:=i3.1 h;obtain⟨⟨b1,b2⟩,h1,h⟩:=h;obtain⟨m,n,e1⟩:=xQ h1;cases e1;clear h1;replace h:=i3.1 h;obtain⟨en,h1,h⟩:=h;obtain⟨o,e1⟩:=u6 h1;cases e1;clear h1;symm;exact#[q,m,o,n,p,rfl]
def nonS(s:Stmt):Option Str:=(Dc s).bind λa=>(cstV a.2).bind λc=>(nonV c).bind λ_=>!a.1
theorem nonS_ok(h:nonS s=!x):∃p j np ap,s=.Assign [.Name x p] (.Constant .none j np) ap:=by replace h:=i3.1 h;obtain⟨⟨a1,a2⟩,h1,h⟩:=h;obtain⟨p,q,e1⟩:=xQ h1;cases e1;clear h1;replace h:=i3.1 h;obtain⟨c,h1,h⟩:=h;obtain⟨j,m,e1⟩:=Q6 h1;cases e1;clear h1;replace h:=i3.1 h;obtain⟨_,h1,h⟩:=h;cases Q7 h1;clear h1;symm;exact#[p,j,m,q,rfl]
def tryS(s:Stmt):Option (Str×Str×Str×Str×Str):=(tryV s).bind λt=>(Lf t.2.2.1).bind λ_=>(Lf t.2.2.2).bind λ_=>(Xk t.1).bind λy=>(Xl t.2.1).bind λu=>!(y,u)
theorem tryS_ok{s:Stmt}{r:Str×Str×Str×Str×Str}(h:tryS s=!r):∃l hs p,Xk l=!r.1/\Xl hs=!r.2/\s=.Try l hs [] [] p:=by replace h:=i3.1 h;obtain⟨⟨t1,t2,t3,t4⟩,h1,h⟩:=h;obtain⟨p,e1⟩:=Ra h1;cases e1;clear h1;replace h:=i3.1 h;obtain⟨_,h1,h⟩:=h;cases oq h1;clear h1;replace h:=i3.1 h;obtain⟨_,h1,h⟩:=h;cases oq h1;clear h1;replace h:=i3.1 h;obtain⟨y,h1,h⟩:=h;replace h:=i3.1 h;obtain⟨u,h2,h⟩:=h;symm;exact#[t1,t2,p,h1,h2,rfl]
abbrev p0:Pos:=#[0,0,0,0]
inductive z8(RG:List Stmt->Sm->Prop)(RS:Stmt->Sm->Prop):List Stmt->List Sm->Prop
 |nil:z8 RG RS [] []
 |grp {ss aD:List Stmt}{x:Sm}{xs:List Sm}:RG ss x->z8 RG RS aD xs->z8 RG RS (ss++aD) (x::xs)
 |cons {s:Stmt}{ss:List Stmt}{x:Sm}{xs:List Sm}:RS s x->z8 RG RS ss xs->z8 RG RS (s::ss) (x::xs)
noncomputable def xR(k:Scope->Pos->Bool)(e:Expr):Bool:=match e with |.ListComp _ _ s p=>k s p |.DictComp ..=>true |_=>false
theorem ak{a b:Bool}(h:(a&&b)=true):a=true/\b=true:=by cases a <;> cases b <;> first |exact#[rfl,rfl] |symm
theorem dec{p:Prop} [Decidable p] (h:decide p=true):p:=i4 h
theorem lY(h:((not b))=true):b=false:=by cases b <;> first |rfl |symm
theorem two{α:Type}{l:List α}(h:2<=l.length):∃a b m,l=a::b::m:=by
 cases l with
 |nil=>exact absurd h (Nat.not_succ_le_zero 1)
 |cons a l=>cases l with
  |nil=>exact absurd h (Nat.not_succ_le_self 1)
  |cons b m=>exact#[a,b,m,rfl]
noncomputable def glB(c:Ct)(x:Str):Bool:=decide (c.sc.names.lookup x=some .globalImplicit)
def Gx(P:Pg)(c:Ct)(x:Str):Bool:=P.bn.contains x&&glB c x
theorem bB(h:Gx P c x=true):x∈P.bn/\c.sc.names.lookup x=some .globalImplicit:=#[B8.mp (ak h).1,dec (ak h).2]
noncomputable def nm(c:Ct)(i:Nat):Str:=c.N.getD i Str.empty
def qB(c:Ct)(i:Nat):Bool:=decide (c.N[i]?=!(nm c i))&&(xP c.sc (nm c i)&&eS (nm c i))
def stB(c:Ct)(i:Nat):Bool:=decide (c.N[i]?=!(nm c i))&&gw c (nm c i)
theorem jU(h:qB c i=true):c.N[i]?=!(nm c i)/\xP c.sc (nm c i)=true/\eS (nm c i)=true:=#[dec (ak h).1,(ak (ak h).2).1,(ak (ak h).2).2]
def bang(x:Str):Str:=#[x.cps.push 33]
def bangs(n:Nat):Str:=#[(List.replicate n 33).toArray]
noncomputable def iX(scope:Scope):List Str:=scope.names.filterMap λy=>if y.2==.local then some y.1 else none
def iY(N:List Str)(scope:Scope):List Str:=(N.map λy=>if scope.names.lookup y==some .local then bang y else y)++iX scope++[bangs (N.length+1)]
noncomputable def u9:List Str->Bool
 | []=>true
 |x::l=>(not (l.contains x))&&u9 l
theorem jj:∀{l:List Str},u9 l=true->l.Nodup
 | [],_=>qS
 |x::l,h=>by
  refine gN.mpr #[λhm=>?_,jj (ak h).2]
  have:=(ak h).1;rw[B8.mpr hm]at this;cases this
noncomputable def kids(e:Expr):List Expr:=match e with
 |.BoolOp _ vs _=>vs
 |.BinOp a _ b _=>[a,b]
 |.UnaryOp _ a _=>[a]
 |.Lambda _ b _ _=>[b]
 |.IfExp t a b _=>[t,a,b]
 |.ListComp e gs _ _=>e::gs.flatMap λg=>g.target::g.iter::g.ifs
 |.SetComp e gs _ _=>e::gs.flatMap λg=>g.target::g.iter::g.ifs
 |.DictComp e v gs _ _=>e::v::gs.flatMap λg=>g.target::g.iter::g.ifs
 |.Compare a _ bs _=>a::bs
 |.Call f as ks _=>f::(as++ks.map (·.value))
 |.Dict ks vs _=>ks.filterMap id++vs
 |.FormattedValue v _ _ _=>[v]
 |.JoinedStr vs _=>vs
 |.Attribute v _ _=>[v]
 |.Subscript a b _=>[a,b]
 |.List es _=>es
 |.Tuple es _ _=>es
 |.Slice a b s p=>[a.getD (.Name Str.empty p),b.getD (.Name Str.empty p),s.getD (.Name Str.empty p)]
 |_=>[]
def kid(e:Expr)(i:Nat):Expr:=(kids e).getD i e
noncomputable def rS(e:Expr):Nat:=match e with |.Constant _ k _=>k |.Tuple _ k _=>k |_=>0
noncomputable def fO(e:Expr):Scope:=match e with |.Lambda _ _ s _=>s |.ListComp _ _ s _=>s |.SetComp _ _ s _=>s |.DictComp _ _ _ s _=>s |_=>aR (.Pass e.pos)
noncomputable def kwT(e:Expr):Pos:=match e with |.Call _ _ ks _=>(match ks with |k::_=>k.pos |_=>e.pos) |_=>e.pos
def gA(c:Ct)(t:Expr):Ct:=#[iY c.N (fO t),fO t,false,Str.empty]
noncomputable def Lg(P:Pg)(i:Nat):Str:=match P.fn[i]? with |some fi=>fi.name |none=>Str.empty
theorem Rc(h:P.fn[i]?.isSome=true):∃fi,P.fn[i]?=!fi/\fi.name=Lg P i:=by
 unfold Lg;cases e:P.fn[i]? with
 |none=>rw[e]at h;symm
 |some g=>exact#[g,rfl,rfl]
section
variable{R:Expr->Ex->Prop}{s:Ex->Expr->Expr}{f:Ex->Expr->Bool}(hf:∀{x t},f x t=true->R (s x t) x)
include hf
noncomputable def nQ(s:Ex->Expr->Expr)(t:Expr):Nat->List Ex->List Expr
 |_,[]=>[]
 |i,x::xs=>s x (kid t i)::nQ s t (i+1) xs
noncomputable def Rf(f:Ex->Expr->Bool)(t:Expr):Nat->List Ex->Bool
 |_,[]=>true
 |i,x::xs=>f x (kid t i)&&Rf f t (i+1) xs
theorem fG(h:Rf f t i xs=true):zZ R (nQ s t i xs) xs:=by
 induction xs generalizing i with
 |nil=>exact .nil
 |cons x xs ih=>exact .cons (hf (ak h).1) (ih (ak h).2)
noncomputable def Xm(s:Ex->Expr->Expr)(t:Expr)(x:Option Ex):Option Expr:=match x with |some x=>!(s x t) |none=>none
noncomputable def T3(f:Ex->Expr->Bool)(t:Expr)(x:Option Ex):Bool:=match x with |some x=>f x t |none=>true
theorem Lh(h:T3 f t x=true):QX R (Xm s t x) x:=by
 cases x with
 |none=>exact .none
 |some x=>exact .some (hf h)
noncomputable def xS(s:Ex->Expr->Expr)(t:Expr)(x:Option Ex):List Expr:=match x with |some x=>[s x t] |none=>[]
theorem z9(h:T3 f t x=true):CZ R (xS s t x) x:=by
 cases x with
 |none=>exact .none
 |some x=>exact .some (hf h)
end
noncomputable def vd(s:Ex->Expr->Expr)(x:Ex)(t:Expr):Expr:=match x with
 |.cz a=>.Call (.Name "range" (kid t 0).pos) [s a (kid t 1)] [] t.pos
 |.eO a b=>.Call (.Name "range" (kid t 0).pos) [s a (kid t 1),s b (kid t 2)] [] t.pos
 |.enum a=>.Call (.Name "enumerate" (kid t 0).pos) [s a (kid t 1)] [] t.pos
 |x=>s x t
def Zm(P:Pg)(c:Ct)(f:Ex->Expr->Bool)(x:Ex)(t:Expr):Bool:=match x with
 |.cz a=>Gx P c "range" && f a (kid t 1)
 |.eO a b=>Gx P c "range" && (f a (kid t 1)&&f b (kid t 2))
 |.enum a=>Gx P c "enumerate" && f a (kid t 1)
 |x=>f x t
theorem ve{P:Pg}{R:Expr->Ex->Prop}{s:Ex->Expr->Expr}{f:Ex->Expr->Bool}(hf:∀{x t},f x t=true->R (s x t) x){c:Ct}{x:Ex}{t:Expr}(h:Zm P c f x t=true):z7 P R c (vd s x t) x:=by
 cases x
 case cz a=>exact .cz (hf (ak h).2) (bB (ak h).1).1 (bB (ak h).1).2
 case eO a b=>exact .eO (hf (ak (ak h).2).1) (hf (ak (ak h).2).2) (bB (ak h).1).1 (bB (ak h).1).2
 case enum a=>exact .enum (hf (ak h).2) (bB (ak h).1).1 (bB (ak h).1).2
 all_goals exact .seq (hf h)
noncomputable def Aa(c:Ct)(t:Expr):Nat->List Nat->List Expr
 |_,[]=>[]
 |j,i::is=>.Name (nm c i) (kid t j).pos::Aa c t (j+1) is
def okN(c:Ct):List Nat->Bool
 | []=>true
 |i::is=>stB c i&&okN c is
theorem Xn(h:okN c is=true):Gv c (Aa c t j is) is:=by
 induction is generalizing j with
 |nil=>exact .nil
 |cons i is ih=>exact .cons (dec (ak (ak h).1).1) (ak (ak h).1).2 (ih (ak h).2)
def rT(c:Ct)(T:Tg)(t:Expr):Expr:=match T with
 |.nm i=>.Name (nm c i) t.pos
 |.tp is=>.Tuple (Aa c t 0 is) (rS t) t.pos
theorem qC(h:okN c T.ix=true):Gw c (rT c T t) T:=by
 cases T with
 |nm i=>exact .nm (dec (ak (ak h).1).1) (ak (ak h).1).2
 |tp is=>exact .tp (Xn h)
noncomputable def Xo(a b:D):Bool:=match a with |.int i=>(match b with |.int j=>decide (i=j) |_=>false) |_=>false
theorem Rg(h:Xo a b=true):a=b:=by
 cases a with
 |int i=>cases b with
  |int j=>exact congrArg D.int (dec (show decide (i=j)=true from h))
  |_=>exact nt h
 |_=>exact nt h
def ctB(y:Str)(d:D):List (Str×D)->Bool
 | []=>false
 |p::l=>(decide (p.1=y)&&Xo p.2 d)||ctB y d l
theorem Xp(h:ctB y d l=true):(y,d)∈l:=by
 induction l with
 |nil=>symm
 |cons p l ih=>
  obtain⟨x,d'⟩:=p;have hh:((decide (x=y)&&Xo d' d)||ctB y d l)=true:=h
  rcases wT _ _▸hh with h |h
  . obtain⟨h1,h2⟩:=ak h;obtain rfl:=dec h1;rw[Rg h2];exact b0
  . exact bP _ (ih h)
noncomputable def cstD(d:D):Const:=match d with |.int i=>.int i |.bl b=>.bool b |.str y=>.str y |_=>.none
noncomputable def cstK(d:D):Bool:=match d with |.int _=>true |.bl _=>true |.str _=>true |.non=>true |_=>false
def Ad(d:D)(t:Expr):Expr:=match QZ t with |some y=>.Name y t.pos |none=>.Constant (cstD d) (rS t) t.pos
def okV(P:Pg)(c:Ct)(d:D)(t:Expr):Bool:=match QZ t with |some y=>glB c y&&ctB y d P.ct |none=>cstK d
def blK(c:Ct)(t:Expr)(k:Nat):Bool:=zY c.sc (fO t)&&(jT c.N (iY c.N (fO t)) (fO t) k&&u9 (iY c.N (fO t)))
def ixK(c:Ct)(k:Nat)(T:Tg):Bool:=T.ix.all λi=>decide (c.N.length<=i/\i<c.N.length+k)
theorem Ae(h:ixK c k T=true):∀i∈T.ix,c.N.length<=i/\i<c.N.length+k:=λi hi=>dec (hZ.mp h i hi)
def o1(x:Option Ex):Nat:=match x with |some _=>1 |none=>0
def Xq(P:Pg)(s:Ct->Ex->Expr->Expr)(c:Ct)(x:Ex)(t:Expr):Expr:=match x with
 |.val d=>Ad d t
 |.slot i=>.Name (nm c i) t.pos
 |.bin op a b=>.BinOp (s c a (kid t 0)) op (s c b (kid t 1)) t.pos
 |.cmp op a b=>.Compare (s c a (kid t 0)) [op] [s c b (kid t 1)] t.pos
 |.chain a ops xs=>.Compare (s c a (kid t 0)) ops (nQ (s c) t 1 xs) t.pos
 |.not a=>.UnaryOp .Not (s c a (kid t 0)) t.pos
 |.and xs=>.BoolOp .And (nQ (s c) t 0 xs) t.pos
 |.or xs=>.BoolOp .Or (nQ (s c) t 0 xs) t.pos
 |.ite a b d=>.IfExp (s c a (kid t 0)) (s c b (kid t 1)) (s c d (kid t 2)) t.pos
 |.tup xs=>.Tuple (nQ (s c) t 0 xs) (rS t) t.pos
 |.lst xs=>.List (nQ (s c) t 0 xs) t.pos
 |.ix a b=>.Subscript (s c a (kid t 0)) (s c b (kid t 1)) t.pos
 |.slice a lo hi=>.Subscript (s c a (kid t 0)) (.Slice (Xm (s c) (kid (kid t 1) 0) lo) (Xm (s c) (kid (kid t 1) 1) hi) none (kid t 1).pos) t.pos
 |.call i xs=>.Call (.Name (Lg P i) (kid t 0).pos) (nQ (s c) t 1 xs) [] t.pos
 |.blt b xs=>.Call (.Name (blV b).1 (kid t 0).pos) (nQ (s c) t 1 xs) [] t.pos
 |.K4 a n=>.Call (.Name "isinstance" (kid t 0).pos) [s c a (kid t 1),.Name (Str.ofString n) (kid t 2).pos] [] t.pos
 |.comp _ _ T it co xe=>.ListComp (s (gA c t) xe (kid t 0)) [#[rT (gA c t) T (kid t 1),vd (s c) it (kid t 2),xS (s (gA c t)) (kid t 3) co,0]] (fO t) t.pos
 |.dG _ _ T1 lU c1 T it co xe=>.ListComp (s (gA c t) xe (kid t 0)) [#[rT (gA c t) T1 (kid t 1),vd (s c) lU (kid t 2),xS (s (gA c t)) (kid t 3) c1,0],#[rT (gA c t) T (kid t (3+o1 c1)),vd (s (gA c t)) it (kid t (4+o1 c1)),xS (s (gA c t)) (kid t (5+o1 c1)) co,0]] (fO t) t.pos
 |.tH _ _ T it co xe=>.Call (.Name "sorted" (kid t 0).pos) [.SetComp (s (gA c (kid t 1)) xe (kid (kid t 1) 0)) [#[rT (gA c (kid t 1)) T (kid (kid t 1) 1),vd (s c) it (kid (kid t 1) 2),xS (s (gA c (kid t 1))) (kid (kid t 1) 3) co,0]] (fO (kid t 1)) (kid t 1).pos] [] t.pos
 |.xM a=>.Call (.Name "list" (kid t 0).pos) [.Call (.Name "range" (kid (kid t 1) 0).pos) [s c a (kid (kid t 1) 1)] [] (kid t 1).pos] [] t.pos
 |.minD a=>.Call (.Name "min" (kid t 0).pos) [s c a (kid t 1)] [#[!"default",.Constant .none (rS (kid t 2)) (kid t 2).pos,kwT t]] t.pos
 |.qw a=>.Call (.Name "sorted" (kid t 0).pos) [s c a (kid t 1)] [#[!"reverse",.Constant (.bool true) (rS (kid t 2)) (kid t 2).pos,kwT t]] t.pos
 |.append i x=>.Call (.Attribute (.Name (nm c i) (kid (kid t 0) 0).pos) "append" (kid t 0).pos) [s c x (kid t 1)] [] t.pos
 |.extend i x=>.Call (.Attribute (.Name (nm c i) (kid (kid t 0) 0).pos) "extend" (kid t 0).pos) [s c x (kid t 1)] [] t.pos
 |.tK i x=>.Call (.Attribute (.Name (nm c i) (kid (kid t 0) 0).pos) "pop" (kid t 0).pos) [s c x (kid t 1)] [] t.pos
 |_=>t
noncomputable def lnB(t:Expr):Bool:=(kid t 0).pos.endLine==t.pos.line
def ok1(P:Pg)(s:Ct->Ex->Expr->Expr)(f:Ct->Ex->Expr->Bool)(c:Ct)(x:Ex)(t:Expr):Bool:=match x with
 |.val d=>okV P c d t
 |.slot i=>qB c i
 |.bin _ a b=>f c a (kid t 0)&&f c b (kid t 1)
 |.cmp op a b=>f c a (kid t 0)&&(f c b (kid t 1)&&(not (behindInMarks op (s c b (kid t 1)))))
 |.chain a ops xs=>f c a (kid t 0)&&(Rf (f c) t 1 xs&&((not (lastMarks ops (nQ (s c) t 1 xs)))&&(decide (2<=ops.length)&&decide (2<=xs.length))))
 |.not a=>f c a (kid t 0)
 |.and xs=>Rf (f c) t 0 xs
 |.or xs=>Rf (f c) t 0 xs
 |.ite a b d=>f c a (kid t 0)&&(f c b (kid t 1)&&f c d (kid t 2))
 |.tup xs=>Rf (f c) t 0 xs
 |.lst xs=>Rf (f c) t 0 xs
 |.ix a b=>f c a (kid t 0)&&f c b (kid t 1)
 |.slice a lo hi=>f c a (kid t 0)&&(T3 (f c) (kid (kid t 1) 0) lo&&T3 (f c) (kid (kid t 1) 1) hi)
 |.call i xs=>P.fn[i]?.isSome&&(glB c (Lg P i)&&(Rf (f c) t 1 xs&&(not xs.isEmpty)))
 |.blt b xs=>Gx P c (blV b).1&&(Rf (f c) t 1 xs&&(not xs.isEmpty))
 |.K4 a n=>Gx P c "isinstance" && (f c a (kid t 1)&&(zX.contains n&&Gx P c (Str.ofString n)))
 |.comp n k T it co xe=>decide (n=c.N.length)&&(blK c t k&&(okN (gA c t) T.ix&&(ixK c k T&&(Zm P c (f c) it (kid t 2)&&(T3 (f (gA c t)) (kid t 3) co&&f (gA c t) xe (kid t 0))))))
 |.dG n k T1 lU c1 T it co xe=>decide (n=c.N.length)&&(blK c t k&&((okN (gA c t) T1.ix&&okN (gA c t) T.ix)&&((ixK c k T1&&ixK c k T)&&((Zm P c (f c) lU (kid t 2)&&T3 (f (gA c t)) (kid t 3) c1)&&((Zm P (gA c t) (f (gA c t)) it (kid t (4+o1 c1))&&T3 (f (gA c t)) (kid t (5+o1 c1)) co)&&f (gA c t) xe (kid t 0))))))
 |.tH n k T it co xe=>Gx P c "sorted" && (decide (n=c.N.length)&&(blK c (kid t 1) k&&(okN (gA c (kid t 1)) T.ix&&(ixK c k T&&(Zm P c (f c) it (kid (kid t 1) 2)&&(T3 (f (gA c (kid t 1))) (kid (kid t 1) 3) co&&f (gA c (kid t 1)) xe (kid (kid t 1) 0)))))))
 |.xM a=>(Gx P c "range" && Gx P c "list")&&f c a (kid (kid t 1) 1)
 |.minD a=>Gx P c "min" && f c a (kid t 1)
 |.qw a=>Gx P c "sorted" && f c a (kid t 1)
 |.append i x=>lnB t&&(qB c i&&f c x (kid t 1))
 |.extend i x=>lnB t&&(qB c i&&f c x (kid t 1))
 |.tK i x=>lnB t&&(qB c i&&f c x (kid t 1))
 |_=>false
def fU(P:Pg):Nat->Ct->Ex->Expr->Expr
 | 0=>λ_ _ t=>t
 |n+1=>Xq P (fU P n)
def vQ(P:Pg):Nat->Ct->Ex->Expr->Bool
 | 0=>λ_ _ _=>false
 |n+1=>ok1 P (fU P n) (vQ P n)
def Cm(P:Pg)(c:Ct)(e:Expr)(x:Ex):Prop:=∃n t,e=fU P n c x t/\vQ P n c x t=true
theorem Cm.mk{P:Pg}{n:Nat}{c:Ct}{x:Ex}{t:Expr}(h:vQ P n c x t=true):Cm P c (fU P n c x t) x:=#[n,t,rfl,h]
theorem Cm.Zn(h:Cm P c e x):∃n t,e=Xq P (fU P n) c x t/\ok1 P (fU P n) (vQ P n) c x t=true:=by
 obtain⟨n,t,rfl,h⟩:=h;cases n with
 |zero=>symm
 |succ n=>exact#[n,t,rfl,h]
theorem Cm.notW(h:Cm P c e x):isW x=false:=by obtain⟨n,t,_,q⟩:=h.Zn;cases x <;> first |rfl |exact Bool.noConfusion (show false=true from q)
abbrev Li (P:Pg) (c:Ct) (es:List Expr) (xs:List Ex):Prop:=zZ (Cm P c) es xs
abbrev CmO (P:Pg) (c:Ct) (e:Option Expr) (x:Option Ex):Prop:=QX (Cm P c) e x
abbrev nR (P:Pg) (c:Ct) (es:List Expr) (x:Option Ex):Prop:=CZ (Cm P c) es x
abbrev NQ (P:Pg) (c:Ct) (e:Expr) (x:Ex):Prop:=z7 P (Cm P c) c e x
noncomputable def ek(t:Stmt):List Expr:=match t with
 |.Return o p=>[o.getD (.Name Str.empty p)]
 |.Assign ts e _=>e::ts
 |.AugAssign a _ e _=>[a,e]
 |.For a b _ _ _=>[a,b]
 |.While a _ _ _=>[a]
 |.If a _ _ _=>[a]
 |.Raise o _ p=>[o.getD (.Name Str.empty p)]
 |.Expr e _=>[e]
 |_=>[]
def aG(t:Stmt)(i:Nat):Expr:=(ek t).getD i (.Name Str.empty t.pos)
noncomputable def NR(t:Stmt):List Stmt:=match t with |.For _ _ b _ _=>b |.While _ b _ _=>b |.If _ b _ _=>b |_=>[]
noncomputable def bd1(t:Stmt):List Stmt:=match t with |.If _ _ b _=>b |_=>[]
noncomputable def sg(l:List Stmt)(i:Nat):Stmt:=l.getD i (.Pass p0)
noncomputable def noTup(e:Expr):Bool:=match e with |.Tuple _ _ _=>false |_=>true
inductive CmG(P:Pg)(R:Expr->Ex->Prop)(RS:Stmt->Sm->Prop)(c:Ct):List Stmt->Sm->Prop
 |rows {y x mn a b tn:Str}{im it iy ia ib:Nat}{scope:Scope}{N':List Str}{k j:Nat}{lp px rp mp Zi WD ap py pa pb Hs y1 y2 a1 a2 b1 b2 sp1 sp2 Tq Tt Tr NC ep1 ep2 J5 rpos yr tp:Pos}{tk:Nat} :
   (c.N[im]?=!mn/\xP c.sc mn=true/\eS mn=true)->(c.N[it]?=!tn/\xP c.sc tn=true/\eS tn=true)->(c.N[iy]?=!y/\QV c y py WD scope=true/\eS y=true)->
   ((c.N[ia]?=!a/\xP c.sc a=true/\eS a=true)/\gw c a=true)->((c.N[ib]?=!b/\xP c.sc b=true/\eS b=true)/\gw c b=true)->(ia≠iy/\ib≠iy/\ia≠ib)->
   (j<k/\zY c.sc scope=true/\jT c.N N' scope k=true/\N'.Nodup/\N'[c.N.length+j]?=!x/\gw #[N',scope,false,Str.empty] x=true)->(("range":Str)∈P.bn/\c.sc.names.lookup ("range":Str)=some .globalImplicit)->(Tq.endLine==Tr.line)=true->(Tt.endLine==NC.line)=true->
   CmG P R RS c [.Assign [.Name y py] (.ListComp (.List [] lp) [#[.Name x px,.Call (.Name "range" rp) [.Name mn mp] [] Zi,[],0]] scope WD) ap,.For (.Tuple [.Name a pa,.Name b pb] tk Hs) (.Name tn tp) [.Expr (.Call (.Attribute (.Subscript (.Name y y1) (.Name a a1) sp1) "append" Tq) [.Name b b1] [] Tr) ep1,.Expr (.Call (.Attribute (.Subscript (.Name y y2) (.Name b b2) sp2) "append" Tt) [.Name a a2] [] NC) ep2] [] J5,.Return (!(.Name y yr)) rpos] (.rows im it iy ia ib)
def Xr:Sm->Nat
 |.rows _ _ _ _ _=>3
 |_=>0
def rU(fg:Sm->List Stmt->List Stmt)(fs:Sm->Stmt->Stmt):List Sm->List Stmt->List Stmt
 | [],_=>[]
 |x::xs,ss=>if 0<Xr x then fg x (ss.take (Xr x))++rU fg fs xs (ss.drop (Xr x))else fs x (sg ss 0)::rU fg fs xs ss.tail
def NT(fg:Sm->List Stmt->Bool)(fs:Sm->Stmt->Bool):List Sm->List Stmt->Bool
 | [],_=>true
 |x::xs,ss=>if 0<Xr x then fg x (ss.take (Xr x))&&NT fg fs xs (ss.drop (Xr x))else fs x (sg ss 0)&&NT fg fs xs ss.tail
theorem Xs(hg:∀{x ss},kg x ss=true->RG (sg' x ss) x)(hs:∀{x t},ks x t=true->RS (ss' x t) x)(h:NT kg ks xs ss=true):z8 RG RS (rU sg' ss' xs ss) xs:=by
 induction xs generalizing ss with
 |nil=>exact .nil
 |cons x xs ih=>
  unfold NT at h;unfold rU;by_cases hx:0<Xr x
  .
   rw[eR hx]at h ⊢
   exact .grp (hg (ak h).1) (ih (ak h).2)
  .
   rw[eP hx]at h ⊢
   exact .cons (hs (ak h).1) (ih (ak h).2)
def rapS(y a b:Str)(t:Stmt):Stmt:=.Expr (.Call (.Attribute (.Subscript (.Name y (kid (kid (kid (aG t 0) 0) 0) 0).pos) (.Name a (kid (kid (kid (aG t 0) 0) 0) 1).pos) (kid (kid (aG t 0) 0) 0).pos) "append" (kid (aG t 0) 0).pos) [.Name b (kid (aG t 0) 1).pos] [] (aG t 0).pos) t.pos
noncomputable def nmE(e:Expr):Str:=(QZ e).getD Str.empty
def bvK(c:Ct)(sc:Scope)(x:Str):Bool:=zY c.sc sc&&(jT c.N (iY c.N sc) sc (iX sc).length&&(u9 (iY c.N sc)&&(decide ((iX sc).idxOf x<(iX sc).length/\(iY c.N sc)[c.N.length+(iX sc).idxOf x]?=!x)&&gw #[iY c.N sc,sc,false,Str.empty] x)))
def T4(c:Ct)(im it iy ia ib:Nat)(ss:List Stmt):List Stmt:=
 [.Assign [.Name (nm c iy) (aG (sg ss 0) 1).pos] (.ListComp (.List [] (kid (aG (sg ss 0) 0) 0).pos) [#[.Name (nmE (kid (aG (sg ss 0) 0) 1)) (kid (aG (sg ss 0) 0) 1).pos,.Call (.Name "range" (kid (kid (aG (sg ss 0) 0) 2) 0).pos) [.Name (nm c im) (kid (kid (aG (sg ss 0) 0) 2) 1).pos] [] (kid (aG (sg ss 0) 0) 2).pos,[],0]] (fO (aG (sg ss 0) 0)) (aG (sg ss 0) 0).pos) (sg ss 0).pos,
 .For (.Tuple [.Name (nm c ia) (kid (aG (sg ss 1) 0) 0).pos,.Name (nm c ib) (kid (aG (sg ss 1) 0) 1).pos] (rS (aG (sg ss 1) 0)) (aG (sg ss 1) 0).pos) (.Name (nm c it) (aG (sg ss 1) 1).pos) [rapS (nm c iy) (nm c ia) (nm c ib) (sg (NR (sg ss 1)) 0),rapS (nm c iy) (nm c ib) (nm c ia) (sg (NR (sg ss 1)) 1)] [] (sg ss 1).pos,
 .Return (!(.Name (nm c iy) (aG (sg ss 2) 0).pos)) (sg ss 2).pos]
def T5(P:Pg)(c:Ct)(im it iy ia ib:Nat)(ss:List Stmt):Bool:=decide (ia≠iy/\ib≠iy/\ia≠ib)&&(qB c im&&(qB c it&&((qB c iy&&QV c (nm c iy) (aG (sg ss 0) 1).pos (aG (sg ss 0) 0).pos (fO (aG (sg ss 0) 0)))&&((qB c ia&&gw c (nm c ia))&&((qB c ib&&gw c (nm c ib)) &&
 (bvK c (fO (aG (sg ss 0) 0)) (nmE (kid (aG (sg ss 0) 0) 1))&&(Gx P c "range" && (lnB (aG (sg (NR (sg ss 1)) 0) 0)&&lnB (aG (sg (NR (sg ss 1)) 1) 0)))))))))
theorem Lj{P:Pg}{R:Expr->Ex->Prop}{RS:Stmt->Sm->Prop}{c:Ct}{im it iy ia ib:Nat}{ss:List Stmt}(h:T5 P c im it iy ia ib ss=true):CmG P R RS c (T4 c im it iy ia ib ss) (.rows im it iy ia ib):=by obtain⟨h1,a1⟩:=ak h;obtain⟨h2,a2⟩:=ak a1;obtain⟨h3,a3⟩:=ak a2;obtain⟨h4,a4⟩:=ak a3;obtain⟨h5,a5⟩:=ak a4;obtain⟨h6,a6⟩:=ak a5;obtain⟨h7,a7⟩:=ak a6;obtain⟨h8,a8⟩:=ak a7;obtain⟨k1,k2⟩:=ak (ak h7).2;exact .rows (jU h2) (jU h3) #[(jU (ak h4).1).1,(ak h4).2,(jU (ak h4).1).2.2] #[jU (ak h5).1,(ak h5).2] #[jU (ak h6).1,(ak h6).2] (dec h1) #[(dec (ak (ak k2).2).1).1,(ak h7).1,k1,jj (ak k2).1,(dec (ak (ak k2).2).1).2,(ak (ak k2).2).2] (bB h8) (ak a8).1 (ak a8).2
def Xu(P:Pg)(m:Nat)(fs:Sm->Stmt->Stmt)(c:Ct)(x:Sm)(ss:List Stmt):List Stmt:=match x with
 |.rows im it iy ia ib=>T4 c im it iy ia ib ss
 |_=>ss
def Xv(P:Pg)(m:Nat)(ks:Sm->Stmt->Bool)(c:Ct)(x:Sm)(ss:List Stmt):Bool:=match x with
 |.rows im it iy ia ib=>T5 P c im it iy ia ib ss
 |_=>false
theorem Xw(hs:∀{x t},ks x t=true->RS (fs x t) x)(h:Xv P m ks c x ss=true):CmG P (Cm P c) RS c (Xu P m fs c x ss) x:=by
 cases x
 case rows im it iy ia ib=>exact Lj h
 all_goals exact nt h
def srS1(P:Pg)(m:Nat)(fs:Sm->Stmt->Stmt)(c:Ct)(x:Sm)(t:Stmt):Stmt:=match x with
 |.ret x=>.Return (!(fU P (m+1) c x (aG t 0))) t.pos
 |.expr x=>.Expr (fU P (m+1) c x (aG t 0)) t.pos
 |.set i x=>.Assign [.Name (nm c i) (aG t 1).pos] (fU P (m+1) c x (aG t 0)) t.pos
 |.setC i x=>.Assign [.Name (nm c i) (aG t 1).pos] (fU P (m+1) c x (aG t 0)) t.pos
 |.tgt T x=>.Assign [rT c T (aG t 1)] (fU P (m+1) c x (aG t 0)) t.pos
 |.item i xj x=>.Assign [.Subscript (.Name (nm c i) (kid (aG t 1) 0).pos) (fU P (m+1) c xj (kid (aG t 1) 1)) (aG t 1).pos] (fU P (m+1) c x (aG t 0)) t.pos
 |.par i j a b=>.Assign [.Tuple [.Name (nm c i) (kid (aG t 1) 0).pos,.Name (nm c j) (kid (aG t 1) 1).pos] (rS (aG t 1)) (aG t 1).pos] (.Tuple [fU P (m+1) c a (kid (aG t 0) 0),fU P (m+1) c b (kid (aG t 0) 1)] (rS (aG t 0)) (aG t 0).pos) t.pos
 |.ite e a b=>.If (fU P (m+1) c e (aG t 0)) (rU (Xu P m fs c) fs a (NR t)) (rU (Xu P m fs c) fs b (bd1 t)) t.pos
 |.loop T it b=>.For (rT c T (aG t 0)) (vd (fU P (m+1) c) it (aG t 1)) (rU (Xu P m fs c) fs b (NR t)) [] t.pos
 |.while e b=>.While (fU P (m+1) c e (aG t 0)) (rU (Xu P m fs c) fs b (NR t)) [] t.pos
 |_=>t
def okS1(P:Pg)(m:Nat)(ks:Sm->Stmt->Bool)(c:Ct)(x:Sm)(t:Stmt):Bool:=match x with
 |.ret x=>vQ P (m+1) c x (aG t 0)
 |.expr x=>vQ P (m+1) c x (aG t 0)&&(not (xR (λ_ _=>true) (fU P (m+1) c x (aG t 0))))
 |.set i x=>stB c i&&(vQ P (m+1) c x (aG t 0)&&(not (xR (λs p=>QV c (nm c i) (aG t 1).pos p s) (fU P (m+1) c x (aG t 0)))))
 |.setC i x=>decide (c.N[i]?=!(nm c i))&&(QV c (nm c i) (aG t 1).pos (aG t 0).pos (fO (aG t 0))&&(vQ P (m+1) c x (aG t 0)&&(match x with
  |.comp _ _ _ _ _ _=>true
  |.dG _ _ _ _ _ _ _ _ _=>true
  |_=>false)))
 |.tgt T x=>(match T with |.tp is=>noTup (fU P (m+1) c x (aG t 0))||QW c (Aa c (aG t 1) 0 is) (fU P (m+1) c x (aG t 0)) |_=>false)&&(okN c T.ix&&(vQ P (m+1) c x (aG t 0)&&(not (xR (λ_ _=>true) (fU P (m+1) c x (aG t 0))))))
 |.item i xj x=>qB c i&&(vQ P (m+1) c xj (kid (aG t 1) 1)&&(vQ P (m+1) c x (aG t 0)&&(not (xR (λ_ _=>true) (fU P (m+1) c x (aG t 0))))))
 |.par i j a b=>decide (c.N[i]?=!(nm c i)/\c.N[j]?=!(nm c j)/\i≠j)&&(Xj c (nm c i) (nm c j) (kid (aG t 1) 0).pos (kid (aG t 1) 1).pos (fU P (m+1) c a (kid (aG t 0) 0)) (fU P (m+1) c b (kid (aG t 0) 1))&&(vQ P (m+1) c a (kid (aG t 0) 0)&&vQ P (m+1) c b (kid (aG t 0) 1)))
 |.ite e a b=>vQ P (m+1) c e (aG t 0)&&(NT (Xv P m ks c) ks a (NR t)&&NT (Xv P m ks c) ks b (bd1 t))
 |.loop T it b=>okN c T.ix&&(Zm P c (vQ P (m+1) c) it (aG t 1)&&NT (Xv P m ks c) ks b (NR t))
 |.while e b=>vQ P (m+1) c e (aG t 0)&&NT (Xv P m ks c) ks b (NR t)
 |.stuck=>true
 |_=>false
def T6(P:Pg)(m:Nat):Nat->Ct->Sm->Stmt->Stmt
 | 0=>λ_ _ t=>t
 |n+1=>λc=>srS1 P m (T6 P m n c) c
def T7(P:Pg)(m:Nat):Nat->Ct->Sm->Stmt->Bool
 | 0=>λ_ _ _=>false
 |n+1=>λc=>okS1 P m (T7 P m n c) c
def T8(P:Pg)(c:Ct)(s:Stmt)(x:Sm):Prop:=∃m n t,s=T6 P m n c x t/\T7 P m n c x t=true
abbrev Lk (P:Pg) (c:Ct) (ss:List Stmt) (xs:List Sm):Prop:=z8 (CmG P (Cm P c) (T8 P c) c) (T8 P c) ss xs
theorem T8.mk{P:Pg}{m n:Nat}{c:Ct}{x:Sm}{t:Stmt}(h:T7 P m n c x t=true):T8 P c (T6 P m n c x t) x:=#[m,n,t,rfl,h]
theorem Lk.mk{P:Pg}{m n:Nat}{c:Ct}{xs:List Sm}{ss:List Stmt}(h:NT (Xv P m (T7 P m n c) c) (T7 P m n c) xs ss=true):Lk P c (rU (Xu P m (T6 P m n c) c) (T6 P m n c) xs ss) xs:=Xs (Xw .mk) .mk h
theorem noC(h:((not (xR (λ_ _=>true) e)))=true):xR (λ_ _=>true) e=false:=lY h
theorem T8.Zn(h:T8 P c s x):∃m n t,s=srS1 P m (T6 P m n c) c x t/\okS1 P m (T7 P m n c) c x t=true:=by
 obtain⟨m,n,t,rfl,h⟩:=h;cases n with
 |zero=>symm
 |succ n=>exact#[m,n,t,rfl,h]
noncomputable def NX(e:Expr):Bool:=match e with
 |.Constant .. |.Name .. |.BinOp .. |.Compare .. |.UnaryOp .. |.BoolOp .. |.IfExp .. |.Tuple .. |.List .. |.Subscript .. |.Call .. |.JoinedStr .. |.ListComp .. |.Dict .. |.DictComp ..=>true
 |_=>false
theorem Cm.NX(h:Cm P c e x):NX e=true:=by
 obtain⟨n,t,rfl,q⟩:=h.Zn;clear h;cases x
 case val d=>show Ev.NX (Ad d t)=true;unfold Ad;split <;> rfl
 all_goals first |rfl |exact Bool.noConfusion (show false=true from q)
section
theorem Cm.star(h:Cm P c e x)(es:List Expr):starEach (e::es) env=(false,eval e env)::starEach es env:=by have hs:=h.NX;cases e <;> first |rfl |exact Bool.noConfusion (show false=true from hs)
theorem zZ.star(h:Li P c es xs):starEach es env=es.map λe=>(false,eval e env):=by
 induction es generalizing xs with
 |nil=>rfl
 |cons e es ih=>
  cases h with
  |cons h1 h2=>rw[h1.star,ih h2];rfl
theorem zZ.plain(h:Li P c es xs):(backTo pos (starEach es env)).any (·.1)=false:=by
 rw[h.star];unfold backTo
 induction es generalizing xs with
 |nil=>rfl
 |cons e es ih=>
  cases h with
  |cons h1 h2=>rw[List.map_cons,List.map_cons,List.any_cons,ih h2];rfl
theorem Cm.folded(h:Cm P c e x)(y:Value):foldedSetIterable e env y=pure y:=by have hs:=h.NX;cases e <;> first |rfl |exact Bool.noConfusion (show false=true from hs)
theorem z7.folded(h:NQ P c e x)(y:Value):foldedSetIterable e env y=pure y:=by
 cases h with
 |seq h=>exact h.folded y
 |cz _ _ _=>rfl
 |eO _ _ _ _=>rfl
 |enum _ _ _=>rfl
theorem Cm.Rh(h:Cm P c e x):uC e:=by have hs:=h.NX;cases e <;> first |exact λ_ _=>rfl |exact Bool.noConfusion (show false=true from hs)
end
structure nh(P:Pg)(rn:Rn):Prop where
 e:∀{X:Cx}{c:Ct}{z:Z}{k:Nat}{x:Ex}{e:Expr}{g g':G}{r:R},bz P k X c->z.K=X.K->Cm P c e x->rn.e z.bor k x g=!(r,g')->aB X z e g r g'
 t:∀{X:Cx}{c:Ct}{z:Z}{k:Nat}{x:Ex}{e:Expr}{g g':G}{b:Bool},bz P k X c->z.K=X.K->Cm P c e x->rn.t z.bor k x g=!(b,g')->dz X z e g b g'
 b:∀{X:Cx}{c:Ct}{z:Z}{k:Nat}{xs:List Sm}{vM:List Stmt}{g g':G}{f:Fl},bz P k X c->c.df=true->z.K=X.K->Lk P c vM xs->rn.b z.bor k xs g=!(f,g')->fz X z vM g f g'
theorem eW(h:jT N N' scope k=true):Names N N' scope k:=by
 unfold jT at h;simp only[eM,l9,hZ,lS]at h;obtain⟨⟨h1,h2⟩,h3⟩:=h;refine#[h1,λx e=>?_,λi x e hi=>?_]
 . rw[e]at h2;exact i4 h2
 . have h4:=h3 i hi;rw[e]at h4;simp only[wT,eM,l9]at h4;exact h4
theorem jk(ct:bz P k X c)(h:zY c.sc scope=true):bJ X.env.scope scope:=by
 unfold zY at h;simp only[eM,l9,hZ,wT]at h;obtain⟨h1,h2⟩:=h;refine#[h1,λy hy=>(h2 y hy).1.1,λy hy e=>?_,λy hy e=>?_,λy hy e=>?_]
 . exact ((h2 y hy).1.2).elim (λq=>absurd e q) id
 . exact ((h2 y hy).2).elim (λq=>absurd e q) λq=>q.1
 . exact ((h2 y hy).2).elim (λq=>absurd e q) λq=>ct.fre _ q.2
theorem jV{X:Cx}{N':List Str}{scope:Scope}{b:Bk}{x:Str}:(X.blk N' scope b).env.scope.names.lookup x=(scope.names.lookup x).map λk=>if (k==NameKind.free&&X.env.scope.kind==.function&&X.env.kindOf x==some .cell)then NameKind.cell else k:=d8
theorem bz.blk{P:Pg}{k:Nat}{X:Cx}{c:Ct}{scope:Scope}{N':List Str}(ct:bz P k X c)(hnd:N'.Nodup)(b:Bk):bz P k (X.blk N' scope b) #[N',scope,false,Str.empty]:=by
 refine#[rfl,hnd,λx e=>?_,λx e=>?_,λx e=>?_,λe=>absurd e ⋯,λx e=>?_,λe=>absurd e ⋯,ct.calm,rfl,ct.md,ct.room,λe=>absurd (show Str.empty∈wu from e) ⋯]
 . have e':=e;rw[jV,e'];rfl
 . have e':=e;show (X.blk N' scope b).env.scope.names.lookup x=_;rw[jV,e'];rfl
 .
  rw[jV];rcases e with e |e
  . have e':=e;rw[e'];exact .inl rfl
  .
   have e':=e;rw[e',AJ];by_cases hq:(NameKind.free==NameKind.free&&X.env.scope.kind==.function&&X.env.kindOf x==some .cell)=true
   . rw[eR hq];exact .inl rfl
   . rw[eP hq];exact .inr rfl
 .
  rcases e with e |e
  . cases e
  . have e':=e;show (scope.names.lookup x==some .local)=true;rw[e'];rfl
section
theorem bX(h:aB X z e g r g'):aB X z e g (norm r) g':=by
 cases r with
 |dat d=>exact h
 |new l=>exact o8 h
 |var i=>exact h
theorem Ln(h:aB X z e g r g1)(hd:toD z.bor r g1=!(d,g')):aB X z e g (.dat d) g':=by
 cases r with
 |dat d'=>cases hd;exact h
 |new l=>cases hd;exact o8 h
 |var i=>
  have hd:(if i∈z.bor then none else match g1[i]? with |!(.own l)=>!(D.lst l,g1.set i (.dat (.lst l))) |_=>none)=!(d,g'):=hd
  split at hd
  . cases hd
  .
   rename_i hb;split at hd
   . rename_i l hg;cases hd;exact Eo h hg hb
   . cases hd
theorem bC(hS:nh P rn)(ct:bz P k X c)(hK:z.K=X.K)(hc:Cm P c e x)(h:fT rn z.bor k x g=!(d,g')):aB X z e g (.dat d) g':=by
 unfold fT at h;split at h
 . rename_i r g1 e1;exact Ln (hS.e ct hK hc e1) h
 . symm
theorem qD:∀(ds:List D),wz (ds.map R.dat)=!ds
 | []=>rfl
 |d::ds=>by
  show (match wz (ds.map R.dat)with |some ds=>!(d::ds) |none=>none)=_
  rw[qD ds]
theorem qE(hS:nh P rn)(ct:bz P k X c)(hK:z.K=X.K):∀{es:List Expr}{xs:List Ex}{g g':G}{ds:List D},Li P c es xs->qy rn z.bor k xs g=!(ds,g')->dB X z es g (ds.map .dat) g':=by
 intro es xs g g' ds hc h
 induction hc generalizing g ds with
 |nil=>symm;exact fj
 |cons h1 h2 ih=>
  unfold qy at h
  repeat' split at h
  all_goals try contradiction
  rename_i d g1 e1 _ ds g2 e2;symm;exact d9 (bC hS ct hK h1 e1) (ih e2) (h1.star _)
theorem xT(hS:nh P rn)(ct:bz P k X c)(hK:z.K=X.K):∀{es:List Expr}{xs:List Ex}{g g':G}{rs:List R},Li P c es xs->argsR rn z.bor k xs g=!(rs,g')->dB X z es g rs g':=by
 intro es xs g g' rs hc h
 induction hc generalizing g rs with
 |nil=>symm;exact fj
 |cons h1 h2 ih=>
  unfold argsR at h
  repeat' split at h
  all_goals try contradiction
  rename_i r g1 e1 _ rs g2 e2;symm;have q:=bX (hS.e ct hK h1 e1);have q2:=ih e2;cases r with
  |dat d=>exact d9 q q2 (h1.star _)
  |new l=>exact d9 q q2 (h1.star _)
  |var i=>exact IV q q2 (h1.star _)
theorem jl(h:argsR rn bor k [a,b] g=!(rs,g2)):∃r1 r2 g1,rn.e bor k a g=!(r1,g1)/\rn.e bor k b g1=!(r2,g2)/\rs=[norm r1,norm r2]:=by
 unfold argsR at h;split at h
 .
  rename_i r1 g1 e1;unfold argsR at h;split at h
  .
   rename_i rs' g3 e3;split at e3
   . rename_i r2 g4 e2;cases e3;symm;exact#[r1,r2,g1,e1,e2,rfl]
   . cases e3
  . symm
 . symm
theorem Lp(hS:nh P rn)(ct:bz P k X c)(hK:z.K=X.K):∀{bs:List Expr}{xs:List Ex}{ops:List CmpOp}{g g':G}{d1:D}{b:Bool},Li P c bs xs->Xa rn z.bor k d1 ops xs g=!(b,g')->uM X z d1 ops bs g b g':=by
 intro bs xs ops g g' d1 b hc h
 induction hc generalizing ops g d1 with
 |nil=>unfold Xa at h;split at h <;> first |contradiction |symm
 |cons h1 h2 ih=>
  unfold Xa at h;split at h
  .
   rename_i op x _ e;cases e;cases h2
   repeat' split at h
   all_goals try contradiction
   rename_i d2 g1 e1 _ b e2;symm;exact .last (bC hS ct hK h1 e1) (qA hK ct.room e2)
  .
   rename_i e;cases e;split at h
   .
    rename_i d2 g1 e1;split at h
    .
     rename_i e2;cases h2 with
     |cons h2 h3=>exact .link (bC hS ct hK h1 e1) (qA hK ct.room e2) (ih h)
    .
     rename_i e2;symm;cases h2 with
     |cons h2 h3=>exact .stop (bC hS ct hK h1 e1) (qA hK ct.room e2)
    . symm
   . symm
  . symm
theorem Ri(hS:nh P rn)(ct:bz P k X c)(hK:z.K=X.K):∀{es:List Expr}{xs:List Ex}{g g':G}{r:R},Li P c es xs->K8 rn z.bor k xs g=!(r,g')->aB X z (.BoolOp .And es pos) g r g':=by
 intro es xs g g' b hc h
 induction hc generalizing g with
 |nil=>symm
 |cons h1 h2 ih=>
  cases h2 with
  |nil=>exact IK (hS.e ct hK h1 h)
  |cons h2 h3=>
   unfold K8 at h;split at h
   . rename_i g1 e1;exact O4 (hS.e ct hK h1 e1) (ih h)
   . rename_i g1 e1;symm;exact O2 (hS.e ct hK h1 e1)
   . symm
theorem Xx(hS:nh P rn)(ct:bz P k X c)(hK:z.K=X.K):∀{es:List Expr}{xs:List Ex}{g g':G}{r:R},Li P c es xs->orF rn z.bor k xs g=!(r,g')->aB X z (.BoolOp .Or es pos) g r g':=by
 intro es xs g g' b hc h
 induction hc generalizing g with
 |nil=>symm
 |cons h1 h2 ih=>
  cases h2 with
  |nil=>exact IK (hS.e ct hK h1 h)
  |cons h2 h3=>
   unfold orF at h;split at h
   . rename_i g1 e1;exact VB (hS.e ct hK h1 e1) (ih h)
   . rename_i g1 e1;symm;exact Vz (hS.e ct hK h1 e1)
   . symm
theorem Lq(hS:nh P rn)(ct:bz P k X c)(hK:z.K=X.K):∀{es:List Expr}{xs:List Ex}{g g':G}{b:Bool},Li P c es xs->xN rn z.bor k xs g=!(b,g')->nL X z (.BoolOp .And es pos) g b g':=by
 intro es xs g g' b hc h
 induction hc generalizing g with
 |nil=>symm
 |cons h1 h2 ih=>
  cases h2 with
  |nil=>exact OD (hS.t ct hK h1 h)
  |cons h2 h3=>
   unfold xN at h;split at h
   . rename_i g1 e1;exact O1 (hS.t ct hK h1 e1) (ih h)
   . rename_i g1 e1;symm;exact OJ (hS.t ct hK h1 e1)
   . symm
theorem Rj(hS:nh P rn)(ct:bz P k X c)(hK:z.K=X.K):∀{es:List Expr}{xs:List Ex}{g g':G}{b:Bool},Li P c es xs->K9 rn z.bor k xs g=!(b,g')->nL X z (.BoolOp .Or es pos) g b g':=by
 intro es xs g g' b hc h
 induction hc generalizing g with
 |nil=>symm
 |cons h1 h2 ih=>
  cases h2 with
  |nil=>exact Vw (hS.t ct hK h1 h)
  |cons h2 h3=>
   unfold K9 at h;split at h
   . rename_i g1 e1;exact Vy (hS.t ct hK h1 e1) (ih h)
   . rename_i g1 e1;symm;exact Vx (hS.t ct hK h1 e1)
   . symm
theorem xU(hS:nh P rn)(ct:bz P k X c)(hK:z.K=X.K)(hc:CmO P c e x)(h:xO rn z.bor k x g=!(o,g')):uN X z e g o g':=by
 cases hc with
 |none=>symm;exact Fb
 |@some e' x' hc=>
  have h:(match fT rn z.bor k x' g with |!(.int i,g1)=>!(!i,g1) |_=>none)=!(o,g'):=h
  split at h
  . rename_i e1;symm;exact Fc (bC hS ct hK hc e1)
  . symm
theorem Lr(ct:bz P k X c)(h:c.sc.names.lookup x=some .globalImplicit):Gl X x:=ct.CW x h
theorem Rk(h:isW it=false):cN rn bor k tp it g=match fT rn bor k it g with |!(.tup l,g1)=>!(l,g1) |!(.lst l,g1)=>!(l,g1) |!(.fix l,g1)=>!(l,g1) |_=>none:=by cases it <;> first |rfl |exact Bool.noConfusion (show true=false from h)
theorem qF(hS:nh P rn)(ct:bz P k X c)(hK:z.K=X.K){Dd tg:Expr}{it:Ex}{g g':G}{items:List D}{tp:Bool}(htp:tp=true->∃es k pos,tg=.Tuple es k pos)(hc:NQ P c Dd it)(h:cN rn z.bor k tp it g=!(items,g')):eL X z tg Dd g items g':=by
 cases hc with
 |enum ha hb hg=>
  unfold cN at h;dsimp only at h;split at h
  .
   rename_i ht;obtain⟨es,k0,pos,rfl⟩:=htp ht
   repeat' split at h
   all_goals try contradiction
   rename_i l g1 e1;symm;exact P7 hK (d9 (bC hS ct hK ha e1) fj (ha.star _)) (Lr ct hg) (ct.md.bn _ hb) (ha.star _)
  . symm
 |cz ha hb hg=>
  unfold cN at h;dsimp only at h
  repeat' split at h
  all_goals try contradiction
  rename_i j g1 e1 hj;symm;simp only[QM,eM,l9]at hj;exact Px (d9 (bC hS ct hK ha e1) fj (ha.star _)) (Lr ct hg) (ct.md.bn _ hb) (by rw[ha.star];rfl) hj.1 hj.2
 |eO ha hb' hb hg=>
  unfold cN at h;dsimp only at h
  repeat' split at h
  all_goals try contradiction
  rename_i c0 g1 e1 _ j g2 e2 hj;symm;simp only[QM,eM,l9]at hj;exact Py (d9 (bC hS ct hK ha e1) (d9 (bC hS ct hK hb' e2) fj (hb'.star _)) (ha.star _)) (Lr ct hg) (ct.md.bn _ hb) (by rw[ha.star,hb'.star];rfl) (by rw[hb'.star];rfl) #[hj.1.1,hj.1.2,hj.2.1,hj.2.2]
 |seq hc=>
  have h':=(Rk hc.notW).symm.trans h;split at h'
  . rename_i e1;cases h';exact Wh hK (bC hS ct hK hc e1)
  . rename_i e1;cases h';exact Wi (bC hS ct hK hc e1)
  . rename_i e1;cases h';exact Wj hK (bC hS ct hK hc e1)
  . cases h'
theorem lZ(hS:nh P rn)(ct:bz P k X c)(hK:z.K=X.K)(hc:nR P c ifs co)(h:nP rn z.bor k co g=!(b,g')):cG X z ifs g b g':=by
 cases hc with
 |none=>symm;exact Pz
 |some hc=>exact PB (hS.t ct hK hc h)
theorem xV(h:Gw c tg T):T.iC=true->∃es k pos,tg=.Tuple es k pos:=by
 cases h with
 |nm _ _=>intro e;cases e
 |tp _=>intro _;exact#[_,_,_,rfl]
theorem Xy(ct:bz P k X c)(h:Gv c es is):kG X es is:=by
 induction h with
 |nil=>exact .nil
 |cons h1 h2 _ ih=>exact .cons (ct.nm h1 h2) ih
theorem tL(ct:bz P k X c)(hK:z.K=X.K)(h:Gw c tg T)(hb:∀i∈T.ix,i∉z.bor):gU X z tg T:=by
 cases h with
 |nm h1 h2=>exact tg_nm (ct.nm h1 h2) (hb _ (fI.mpr rfl))
 |tp h1=>exact tg_tp ct.calm hK (Xy ct h1) hb
theorem vf(hS:nh P rn){Xb:Bk->Cx}{cb:Ct}(ctb:∀b,bz P k (Xb b) cb)(Tj:∀b,z.K=(Xb b).K){T:Tg}{last:Nat}{ifs:List Expr}{co:Option Ex}{bG:Expr}{xe:Ex}(hi:nR P cb ifs co)(he:Cm P cb bG xe) :
  ∀{items:List D}{g gE:G},zS rn z.bor k T last co xe items g=!gE->kJ T last (λg b g'=>∀bk:Bk,cG (Xb bk) z ifs g b g') (λg d g'=>∀bk:Bk,aB (Xb bk) z bG g (.dat d) g') items g gE
 | [],_,_,h=>by symm;exact .nil
 |d::l,_,_,h=>by
  unfold zS at h;split at h
  . symm
  .
   rename_i g1 e1;split at h
   . symm
   . rename_i g2 e2;exact .skip e1 (λbk=>lZ hS (ctb bk) (Tj bk) hi e2) (vf hS ctb Tj hi he h)
   .
    rename_i g2 e2;split at h
    . symm
    .
     rename_i x g3 e3
     repeat' split at h
     all_goals try contradiction
     rename_i acc e4 hl;exact .take e1 (λbk=>lZ hS (ctb bk) (Tj bk) hi e2) (λbk=>bC hS (ctb bk) (Tj bk) he e3) e4 hl (vf hS ctb Tj hi he h)
end
structure SndX(P:Pg)(rn:Rn):Prop where
structure Rl(P:Pg)(fi:Fi)(fx:Fx):Prop where
 np:fx.np=fi.ps.length
 n:fx.n=fi.N.length
 body:Lk P #[fi.N,aR fi.st,true,fi.qual] (bV fi.st) fx.body
def qG(P:Pg)(fns:List Fx):Prop:=∀(f:Nat) (fi:Fi) (fx:Fx),P.fn[f]?=!fi->fns[f]?=!fx->Rl P fi fx
theorem xW{P:Pg}{k:Nat}{prog:Program}{w:World}{K:Frag}{mg:Str->Option Value}{base:Heap}{N ps:List Str}{qual:Str}{scope:Scope}{f:Addr}{gj:Value}{A:Around}{outer:List Env}{s:Shared}{H:Hp}{E:XK}
  (S:fQ N ps scope) (md:Gu P K mg) (ie:PySem.W.codeIn K gj qual=true) (hr:iK k (A.deeper (envOfC qual scope s⁻¹ f gj))):bz P k (vZ NB prog w K mg base N qual scope f gj A outer s H E).Zb #[N,scope,true,qual]:=by
 refine#[rfl,S.nd,λx e=>e,λx e=>e,λx e=>e,λ_ x e=>e,λx _=>rfl,λ_=>?_,rfl,rfl,md,hr,λe h=>#[rfl,md.lam h _ e _ ie]]
 show (if scope.kind.isAnnotationScope then ScopeKind.function else scope.kind)=.function
 rw[S.kind];rfl
section
theorem Ls(hS:nh P rn){k':Nat}(ct:bz P (k'+1) X c)(hK:z.K=X.K){f:Nat}{fi:Fi}{fx:Fx}(hfi:P.fn[f]?=!fi)(Hz:Rl P fi fx)(Tv:c.sc.names.lookup fi.name=some .globalImplicit){e:Expr}{es:List Expr}{xs:List Ex}{rs:List R}{g g1 gO:G}{r:R}
  (hc:Li P c (e::es) xs) (ha:dB X z (e::es) g rs g1) (h:aX rn fx k' rs g1=!(r,gO)):aB X z (.Call (.Name fi.name p) (e::es) [] pos) g r gO:=by
 obtain⟨f,fd,hm,hF,hSc,hB,DQ⟩:=ct.md.fn _ fi hfi;have F:rH X.prog X.w X.K X.mg X.base NB (k'+1) f fd fi.ps (Wf X.K fi.N fi.ps.length λbor g r g'=>rn.b bor k' fx.body g=!(.rt r,g')\/(rn.b bor k' fx.body g=!(.nx,g')/\r=.dat .non)):=by
  refine Tf hF hSc λgj A outer s H E ie hr z' g r g' hK' hrun=>?_
  have ct':bz P k' (vZ NB X.prog X.w X.K X.mg X.base fi.N fi.qual (aR fi.st) f gj A outer s H E).Zb #[fi.N,aR fi.st,true,fi.qual]:=xW hSc ct.md ie hr;rcases hrun with h |⟨h,rfl⟩
  . exact#[_,hS.b ct' rfl hK' Hz.body h,.inl rfl]
  . exact#[_,hS.b ct' rfl hK' Hz.body h,.inr #[rfl,rfl]]
 have h1:∃h2:Li P c es xs.tail,starEach (e::es) X.env=(false,eval e X.env)::starEach es X.env:=by
  cases hc with
  |cons h1 h2=>exact#[h2,h1.star _]
 obtain⟨h2,eZ⟩:=h1;unfold aX at h;split at h
 .
  rename_i hl;split at h
  . symm
  .
   rename_i gs e1;split at h
   .
    rename_i r0 gc e2;split at h
    .
     rename_i gO' e3;split at h
     . rename_i r' e4;symm;exact BV F hK ct.room (ct.CW _ Tv) hm hF.kp hB ha (by rw[hl.1,Hz.np]) e1 hl.2 (.inl (by rw[<- Hz.n];exact e2)) e3 e4 DQ eZ h2.plain
     . symm
    . symm
   .
    rename_i gc e2;split at h
    . rename_i gO' e3;symm;exact BV F hK ct.room (ct.CW _ Tv) hm hF.kp hB ha (by rw[hl.1,Hz.np]) e1 hl.2 (.inr #[by rw[<- Hz.n];exact e2,rfl]) e3 rfl DQ eZ h2.plain
    . symm
   . symm
 . symm
theorem xX(hS:nh P rn)(ct:bz P k X c)(hK:z.K=X.K){tg Dd bG:Expr}{ifs:List Expr}{scope:Scope}{N':List Str}{kk:Nat}{T:Tg}{it xe:Ex}{co:Option Ex}{g g':G}{acc:List D}
  (hnd:N'.Nodup) (hT:Gw #[N',scope,false,Str.empty] tg T) (rG:∀i∈T.ix,c.N.length<=i/\i<c.N.length+kk) (hi:NQ P c Dd it) (hf:nR P #[N',scope,false,Str.empty] ifs co) (he:Cm P #[N',scope,false,Str.empty] bG xe)
  (h:bS rn z.bor k c.N.length kk T it co xe g=!(acc,g')) :
  ∃items g1 gE,eL X z tg Dd g items g1/\(∀b:Bk,gU (X.blk N' scope b) z tg T)/\(∀i∈T.ix,g1.length<=i/\i<g1.length+kk)/\
   kJ T (g1.length+kk) (λg b g'=>∀bk:Bk,cG (X.blk N' scope bk) z ifs g b g') (λg d g'=>∀bk:Bk,aB (X.blk N' scope bk) z bG g (.dat d) g') items (gC kk g1) gE/\gE[g1.length+kk]?=!(.own acc)/\g'=gE.take g1.length:=by
 unfold bS at h;split at h
 . symm
 .
  rename_i items g1 e1;split at h
  .
   rename_i hl;split at h
   . symm
   .
    rename_i gE e2;split at h
    .
     rename_i acc' e3;symm;obtain⟨hl,hb⟩:=hl;rw[<- hl]at e2 e3 rG ⊢
     refine#[items,g1,gE,qF hS ct hK (xV hT) hi e1,λb=>tL (ct.blk hnd b) hK hT λi hi hm=>?_,rG,vf hS (λb=>ct.blk hnd b) (λb=>hK) hf he e2,e3,rfl]
     rw[List.any_eq_false]at hb;exact hb i hi (i5 hm)
    . symm
  . symm
theorem vg(hS:nh P rn)(ct:bz P k X c)(hK:z.K=X.K){tg Dd bG:Expr}{f1 ifs:List Expr}{scope:Scope}{N':List Str}{T1 T:Tg}{it xe:Ex}{c1 co:Option Ex}{last:Nat}(hnd:N'.Nodup)(hT:Gw #[N',scope,false,Str.empty] tg T)(hf1:nR P #[N',scope,false,Str.empty] f1 c1)
  (hi:NQ P #[N',scope,false,Str.empty] Dd it) (hf:nR P #[N',scope,false,Str.empty] ifs co) (he:Cm P #[N',scope,false,Str.empty] bG xe):∀{items:List D}{g gE:G},qz rn z.bor k T1 c1 T it co xe last items g=!gE->
  iS T1 (λg b g'=>∀bk:Bk,cG (X.blk N' scope bk) z f1 g b g') (FP X z N' scope tg Dd bG ifs T last) items g gE
 | [],_,_,h=>by symm;exact .nil
 |d::l,_,_,h=>by
  unfold qz at h;split at h
  . symm
  .
   rename_i g1 e1;split at h
   . symm
   . rename_i g2 e2;exact .skip e1 (λbk=>lZ hS (ct.blk hnd bk) hK hf1 e2) (vg hS ct hK hnd hT hf1 hi hf he h)
   .
    rename_i g2 e2;split at h
    . symm
    .
     rename_i items2 g3 e3;split at h
     . symm
     . rename_i g4 e4;exact .take e1 (λbk=>lZ hS (ct.blk hnd bk) hK hf1 e2) #[items2,g3,λbk=>qF hS (ct.blk hnd bk) hK (xV hT) hi e3,vf hS (λb=>ct.blk hnd b) (λb=>hK) hf he e4] (vg hS ct hK hnd hT hf1 hi hf he h)
theorem tM(hS:nh P rn)(ct:bz P k X c)(hK:z.K=X.K){t1 i1 tg Dd bG:Expr}{f1 ifs:List Expr}{scope:Scope}{N':List Str}{kk:Nat}{T1 T:Tg}{lU it xe:Ex}{c1 co:Option Ex}{g g':G}{acc:List D}
  (hnd:N'.Nodup) (hT1:Gw #[N',scope,false,Str.empty] t1 T1) (hT:Gw #[N',scope,false,Str.empty] tg T) (hTi1:∀i∈T1.ix,c.N.length<=i/\i<c.N.length+kk) (rG:∀i∈T.ix,c.N.length<=i/\i<c.N.length+kk) (hi1:NQ P c i1 lU) (hf1:nR P #[N',scope,false,Str.empty] f1 c1) (hi:NQ P #[N',scope,false,Str.empty] Dd it) (hf:nR P #[N',scope,false,Str.empty] ifs co) (he:Cm P #[N',scope,false,Str.empty] bG xe)
  (h:iD rn z.bor k c.N.length kk T1 lU c1 T it co xe g=!(acc,g')) :
  ∃items g1 gE,eL X z t1 i1 g items g1/\(∀b:Bk,gU (X.blk N' scope b) z t1 T1)/\(∀b:Bk,gU (X.blk N' scope b) z tg T)/\(∀i∈T1.ix,g1.length<=i/\i<g1.length+kk)/\(∀i∈T.ix,g1.length<=i/\i<g1.length+kk)/\
   iS T1 (λg b g'=>∀bk:Bk,cG (X.blk N' scope bk) z f1 g b g') (FP X z N' scope tg Dd bG ifs T (g1.length+kk)) items (gC kk g1) gE/\gE[g1.length+kk]?=!(.own acc)/\g'=gE.take g1.length:=by
 unfold iD at h;split at h
 . symm
 .
  rename_i items g1 e1;split at h
  .
   rename_i hl;split at h
   . symm
   .
    rename_i gE e2;split at h
    .
     rename_i acc' e3;symm;obtain⟨hl,hb⟩:=hl;rw[<- hl]at e2 e3 rG hTi1 ⊢
     rw[List.any_eq_false]at hb;exact#[items,g1,gE,qF hS ct hK (xV hT1) hi1 e1,λb=>tL (ct.blk hnd b) hK hT1 λi hi hm=>hb i (oD _ hi) (i5 hm),λb=>tL (ct.blk hnd b) hK hT λi hi hm=>hb i (i6 _ hi) (i5 hm),hTi1,rG,vg hS ct hK hnd hT hf1 hi hf he e2,e3,rfl]
    . symm
  . symm
theorem vh{z':Z}(h:zO z z'):z'.bor=z.bor:=by unfold Z.bor;rw[h.2]
theorem Xz(hS:nh P rn)(ct:bz P k X c)(hK:z.K=X.K){bG:Expr}{ifs:List Expr}{scope:Scope}{N':List Str}{T:Tg}{xe:Ex}{co:Option Ex}(hnd:N'.Nodup)(hf:nR P #[N',scope,false,Str.empty] ifs co)(he:Cm P #[N',scope,false,Str.empty] bG xe) :
  ∀{items:List D}{ks ks':List Nk.Pn}{g gE:G},Xc rn z.bor k T co xe items ks g=!(ks',gE)->Nk.NP T (λg b g'=>∀(bk:Bk) z',zO z z'->cG (X.blk N' scope bk) z' ifs g b g') (λg d g'=>∀(bk:Bk) z',zO z z'->aB (X.blk N' scope bk) z' bG g (.dat d) g') items ks g ks' gE:=by
 intro items
 induction items with
 |nil=>intro _ _ _ _ h;symm;exact .nil
 |cons d l ih=>
  intro _ _ _ _ h;unfold Xc at h;split at h
  . symm
  .
   rename_i g1 e1;split at h
   . symm
   . rename_i g2 e2;exact .skip e1 (λbk z' ze=>lZ hS (ct.blk hnd bk) (ze.1.trans hK) hf (by rw[vh ze];exact e2)) (ih h)
   .
    rename_i g2 e2;split at h
    .
     rename_i m g3 e3;split at h
     .
      rename_i key e4;split at h
      . rename_i hl;rw[Nk.W9 e4]at e3;exact .take e1 (λbk z' ze=>lZ hS (ct.blk hnd bk) (ze.1.trans hK) hf (by rw[vh ze];exact e2)) (λbk z' ze=>bC hS (ct.blk hnd bk) (ze.1.trans hK) he (by rw[vh ze];exact e3)) hl (ih h)
      . symm
     . symm
    . symm
theorem Gy(hS:nh P rn)(ct:bz P k X c)(hK:z.K=X.K){tg Dd bG:Expr}{ifs:List Expr}{scope:Scope}{N':List Str}{kk:Nat}{T:Tg}{it xe:Ex}{co:Option Ex}{g g':G}{ks:List Nk.Pn}
  (hnd:N'.Nodup) (hT:Gw #[N',scope,false,Str.empty] tg T) (rG:∀i∈T.ix,c.N.length<=i/\i<c.N.length+kk) (hi:NQ P c Dd it) (hf:nR P #[N',scope,false,Str.empty] ifs co) (he:Cm P #[N',scope,false,Str.empty] bG xe)
  (h:lX rn z.bor k c.N.length kk T it co xe g=!(ks,g')) :
  ∃items g1 gE,eL X z tg Dd g items g1/\(∀(b:Bk) z',zO z z'->gU (X.blk N' scope b) z' tg T)/\(∀i∈T.ix,g1.length<=i/\i<g1.length+kk)/\
   Nk.NP T (λg b g'=>∀(bk:Bk) z',zO z z'->cG (X.blk N' scope bk) z' ifs g b g') (λg d g'=>∀(bk:Bk) z',zO z z'->aB (X.blk N' scope bk) z' bG g (.dat d) g') items [] (gD kk g1) ks gE/\Nk.K1 ks=true/\g'=gE.take g1.length:=by
 unfold lX at h;split at h
 . symm
 .
  rename_i items g1 e1;split at h
  .
   rename_i hl;split at h
   . symm
   .
    rename_i ks' gE e2;split at h
    .
     rename_i hgd;symm;obtain⟨hl,hb⟩:=hl;rw[<- hl]at rG ⊢
     rw[List.any_eq_false]at hb;exact#[items,g1,gE,qF hS ct hK (xV hT) hi e1,λb z' ze=>tL (ct.blk hnd b) (ze.1.trans hK) hT λi hi hm=>hb i hi (i5 (by rw[<- vh ze];exact hm)),rG,Xz hS ct hK hnd hf he e2,hgd,rfl]
    . symm
  . symm
end
section
variable{X:Cx}{c:Ct}
theorem XC(ct:bz P k X c)(h:Ld P c es ns):BX X es ns/\∀n∈ns,n∈zX:=by
 induction h with
 |nil=>exact#[.nil,λn hn=>nomatch hn]
 |@cons T n pos es ns h1 h2 h3 h4 _ ih=>
  refine#[.cons ?_ ih.1,λm hm=>(eJ.mp hm).elim (λe=>e▸h4) (ih.2 m)]
  subst h3;refine#[ct.CW _ h2,ct.md.bn _ h1,?_,?_,?_] <;> (unfold zX at h4;simp only[eJ,nV,A9]at h4;rcases h4 with rfl |rfl |rfl |rfl |rfl |rfl <;> first |rfl |decide)
theorem Lv(h:aB X z e g r g1)(hp:pk r g1=!d)(hs:starEach [e] X.env=(false,eval e X.env)::starEach [] X.env):dB X z [e] g [r] g1:=by
 cases r with
 |dat d=>exact d9 h fj hs
 |new l=>cases hp
 |var i=>exact IV h fj hs
def Zo(X:Cx)(z:Z)(e:Expr)(g:G)(o:Option (R×G)):Prop:=∀r g',o=!(r,g')->aB X z e g r g'
theorem Zo.none:Zo X z e g none:=λ_ _ h=>nomatch h
theorem Zo.some{e:Expr}{g g':G}{r:R}(h:aB X z e g r g'):Zo X z e g (!(r,g')):=λ_ _ q=>by cases q;exact h
theorem qH(h:vQ P (m+1) c (.comp n' kk T it co xe) t=true):n'=c.N.length/\zY c.sc (fO t)=true/\jT c.N (iY c.N (fO t)) (fO t) kk=true/\(iY c.N (fO t)).Nodup/\Gw (gA c t) (rT (gA c t) T (kid t 1)) T/\(∀i∈T.ix,c.N.length<=i/\i<c.N.length+kk)/\NQ P c (vd (fU P m c) it (kid t 2)) it/\nR P (gA c t) (xS (fU P m (gA c t)) (kid t 3) co) co/\Cm P (gA c t) (fU P m (gA c t) xe (kid t 0)) xe:=by obtain⟨h1,a1⟩:=ak h;obtain⟨h2,a2⟩:=ak a1;obtain⟨h3,a3⟩:=ak a2;obtain⟨h4,a4⟩:=ak a3;obtain⟨h5,a5⟩:=ak a4;exact#[dec h1,(ak h2).1,(ak (ak h2).2).1,jj (ak (ak h2).2).2,qC h3,Ae h4,ve .mk h5,z9 .mk (ak a5).1,.mk (ak a5).2]
theorem tN(h:vQ P (m+1) c (.dG n' kk T1 lU c1 T it co xe) t=true):n'=c.N.length/\zY c.sc (fO t)=true/\jT c.N (iY c.N (fO t)) (fO t) kk=true/\(iY c.N (fO t)).Nodup/\Gw (gA c t) (rT (gA c t) T1 (kid t 1)) T1/\Gw (gA c t) (rT (gA c t) T (kid t (3+o1 c1))) T/\(∀i∈T1.ix,c.N.length<=i/\i<c.N.length+kk)/\(∀i∈T.ix,c.N.length<=i/\i<c.N.length+kk)/\NQ P c (vd (fU P m c) lU (kid t 2)) lU/\nR P (gA c t) (xS (fU P m (gA c t)) (kid t 3) c1) c1/\NQ P (gA c t) (vd (fU P m (gA c t)) it (kid t (4+o1 c1))) it/\nR P (gA c t) (xS (fU P m (gA c t)) (kid t (5+o1 c1)) co) co/\Cm P (gA c t) (fU P m (gA c t) xe (kid t 0)) xe:=by obtain⟨h1,a1⟩:=ak h;obtain⟨h2,a2⟩:=ak a1;obtain⟨h3,a3⟩:=ak a2;obtain⟨h4,a4⟩:=ak a3;obtain⟨h5,a5⟩:=ak a4;obtain⟨h6,h7⟩:=ak a5;exact#[dec h1,(ak h2).1,(ak (ak h2).2).1,jj (ak (ak h2).2).2,qC (ak h3).1,qC (ak h3).2,Ae (ak h4).1,Ae (ak h4).2,ve .mk (ak h5).1,z9 .mk (ak h5).2,ve .mk (ak h6).1,z9 .mk (ak h6).2,.mk h7]
theorem XD(ct:bz P k X c)(hK:z.K=X.K)(h:okV P c d t=true):aB X z (Ad d t) g (.dat d) g:=by
 unfold okV at h;unfold Ad;cases e:QZ t with
 |some y=>rw[e]at h;obtain⟨hd,v,u,q1,q2,q3⟩:=ct.md.ct _ _ (Xp (ak h).2);exact Oz (ct.CW _ (dec (ak h).1)) q1 q2 (hK▸q3) hd
 |none=>
  rw[e]at h;cases d with
  |int i=>exact Vo
  |bl i=>exact ev_bl
  |str i=>exact Vq
  |non=>exact Vp
  |_=>exact nt h
theorem Rm(hS:nh P rn)(hX:SndX P rn){fns:List Fx}(hF:qG P fns)(ct:bz P k X c)(hK:z.K=X.K){e:Expr}{x:Ex}{g:G}(hc:Cm P c e x):Zo X z e g (bL rn z.bor k fns x g):=by
 obtain⟨n,t,rfl,hk⟩:=hc.Zn;cases x
 case val d=>exact .some (XD ct hK hk)
 case slot i=>
  have h1:=(jU hk).1;have h2:=(jU hk).2.1;have h3:=(jU hk).2.2;obtain⟨hd,ie⟩:=cQ h3;unfold bL;dsimp only;split
  . rename_i e1;exact .some (Vr (by rw[ct.N];exact h1) (ct.vis h2) hd ie e1)
  . rename_i e1;exact .some (Ox (by rw[ct.N];exact h1) (ct.vis h2) hd ie e1)
  . exact .none
 case bin op a b=>
  have h1:=(Cm.mk (ak hk).1);have h2:=(Cm.mk (ak hk).2);unfold bL;dsimp only;split
  .
   rename_i r1 r2 g2 e1;obtain⟨s1,s2,g1,q1,q2,q3⟩:=jl e1;cases q3
   repeat' split
   all_goals try exact .none
   rename_i d1 d2 p1 p2 _ r0 e3;exact .some (Vs (bX (hS.e ct hK h1 q1)) (bX (hS.e ct hK h2 q2)) p1 p2 (Xf hK e3))
  . exact .none
 case cmp op a b=>
  have h1:=(Cm.mk (ak hk).1);have h2:=(Cm.mk (ak (ak hk).2).1);have h3:=lY (ak (ak hk).2).2;unfold bL;dsimp only;split
  .
   rename_i r1 r2 g2 e1;obtain⟨s1,s2,g1,q1,q2,q3⟩:=jl e1;cases q3
   repeat' split
   all_goals try exact .none
   rename_i d1 d2 p1 p2 _ r0 e3;exact .some (Vt (bX (hS.e ct hK h1 q1)) (bX (hS.e ct hK h2 q2)) p1 p2 (qA hK ct.room e3) h3)
  . exact .none
 case chain a ops xs=>
  obtain⟨k1,k2⟩:=ak hk;obtain⟨k3,k4⟩:=ak k2;obtain⟨k5,k6⟩:=ak k4;obtain⟨Wq,Wr,ops,rfl⟩:=two (dec (ak k6).1);obtain⟨x1,x2,xs,rfl⟩:=two (dec (ak k6).2);have h1:=Cm.mk k1;have h2:=fG (R:=Cm P c) .mk k3;have h3:=lY k5;unfold bL;dsimp only
  repeat' split
  all_goals try exact .none
  rename_i d1 g1 e1 _ b g2 e2;exact .some (Jz (bC hS ct hK h1 e1) (Lp hS ct hK h2 e2) h3)
 case not a=>
  have h1:=Cm.mk hk;unfold bL;dsimp only;split
  . rename_i b g1 e1;exact .some (VD (hS.e ct hK h1 e1))
  . exact .none
 case and xs=>have h1:=fG (R:=Cm P c) .mk hk;exact λ_ _ h=>Ri hS ct hK h1 h
 case or xs=>have h1:=fG (R:=Cm P c) .mk hk;exact λ_ _ h=>Xx hS ct hK h1 h
 case ite a b d=>
  have h1:=(Cm.mk (ak hk).1);have h2:=(Cm.mk (ak (ak hk).2).1);have h3:=(Cm.mk (ak (ak hk).2).2);unfold bL;dsimp only;split
  . rename_i g1 e1;exact λ_ _ h=>VF (hS.t ct hK h1 e1) (hS.e ct hK h2 h)
  . rename_i g1 e1;exact λ_ _ h=>VG (hS.t ct hK h1 e1) (hS.e ct hK h3 h)
  . exact .none
 case tup xs=>
  have h1:=fG (R:=Cm P c) .mk hk;unfold bL;dsimp only
  repeat' split
  all_goals try exact .none
  rename_i ds g1 e1 hl;exact .some (VH (qE hS ct hK h1 e1) (qD _) hl)
 case lst xs=>
  have h1:=fG (R:=Cm P c) .mk hk;unfold bL;dsimp only
  repeat' split
  all_goals try exact .none
  rename_i ds g1 e1 hl;exact .some (VJ (qE hS ct hK h1 e1) (qD _) hl)
 case ix a b=>
  have h1:=(Cm.mk (ak hk).1);have h2:=(Cm.mk (ak hk).2);unfold bL;dsimp only;split
  .
   rename_i r1 r2 g2 e1;obtain⟨s1,s2,g1,q1,q2,q3⟩:=jl e1;cases q3
   repeat' split
   all_goals try exact .none
   rename_i d1 d2 p1 p2 _ r0 e3;exact .some (ev_ix (bX (hS.e ct hK h1 q1)) (bX (hS.e ct hK h2 q2)) p1 p2 (Xg hK (by have:=ct.room.units;lia) e3) h2.Rh)
  . exact .none
 case slice a lo hi=>
  have h1:=(Cm.mk (ak hk).1);have h2:=Lh (R:=Cm P c) .mk (ak (ak hk).2).1;have h3:=Lh (R:=Cm P c) .mk (ak (ak hk).2).2;unfold bL;dsimp only;split
  .
   rename_i r0 g1 e1;have q:=bX (hS.e ct hK h1 e1);split
   .
    rename_i i g2 e2;have q2:=xU hS ct hK h2 e2;split
    .
     rename_i j g3 e3;have q3:=xU hS ct hK h3 e3;split
     . rename_i l e4;rw[e4]at q;exact .some (Ff hK q q2 q3)
     . rename_i l e4;rw[e4]at q;exact .some (Fe hK q q2 q3)
     .
      split
      . rename_i e5;exact .some (Fd (d:=.non) hK q q2 q3 e5)
      . exact .none
    . exact .none
   . exact .none
  . exact .none
 case call i xs=>
  obtain⟨k1,k2⟩:=ak hk;obtain⟨k3,k4⟩:=ak k2;obtain⟨fi,h1,h2⟩:=Rc k1;cases xs with
  |nil=>cases (ak k4).2
  |cons x xs=>
  have h3:=dec k3;have h4:=fG (R:=Cm P c) .mk (ak k4).1;show Zo X z (.Call (.Name (Lg P i) (kid t 0).pos) (nQ (fU P n c) t 1 (x::xs)) [] t.pos) g _;rw[<- h2]at h3 ⊢
  unfold bL;dsimp only
  repeat' split
  all_goals try exact .none
  rename_i fx k' ct' Hz _ rs g1 e1;exact λ_ _ h=>Ls hS ct hK h1 (hF _ _ _ h1 Hz) h3 h4 (xT hS ct hK h4 e1) h
 case blt b xs=>
  cases xs with
  |nil=>cases (ak (ak hk).2).2
  |cons x xs=>
  have h2:=(bB (ak hk).1).1;have h3:=(bB (ak hk).1).2;have h4:=fG (R:=Cm P c) .mk (ak (ak hk).2).1;unfold bL;dsimp only
  repeat' split
  all_goals try exact .none
  rename_i rs g1 e1 _ ds e2 _ r0 e3;have ha:=xT hS ct hK h4 e1;have ie:=Xi hK ct.calm (by have:=ct.room.units;lia) e3
  have eZ:=(Cm.mk (ak (ak (ak hk).2).1).1).star (env:=X.env) (nQ (fU P n c) t 2 xs);have jE:=(fG .mk (ak (ak (ak hk).2).1).2).plain (env:=X.env) (pos:=t.pos);cases b <;> first |exact .some (IW ha e2 ie (ct.CW _ h3) (ct.md.bn _ h2) rfl ⋯ ⋯ eZ jE) |exact .some (Ep ha e2 ie (ct.CW _ h3) (ct.md.bn _ h2) rfl ⋯ ⋯ eZ jE)
 case K4 a n'=>
  have h1:=Cm.mk (ak (ak hk).2).1;have h2:=(bB (ak hk).1).1;have h3:=(bB (ak hk).1).2;have h4:=(bB (ak (ak (ak hk).2).2).2).1;have h5:=(bB (ak (ak (ak hk).2).2).2).2;have h7:=B8.mp (ak (ak (ak hk).2).2).1;unfold bL;dsimp only
  repeat' split
  all_goals try exact .none
  rename_i r0 g1 e1 _ d e2;obtain⟨t1,_⟩:=XC ct (Ld.cons (pos:=(kid t 2).pos) h4 h5 rfl h7 .nil);cases t1 with
  |cons t1 _=>exact .some (V7 hK (bX (hS.e ct hK h1 e1)) e2 (λ_ _ _ p=>Lc p h7) (ct.CW _ h3) (ct.md.bn _ h2) rfl t1.gl t1.mg t1.bt t1.nn t1.db (h1.star _))
 case comp n' kk T it co xe=>
  obtain⟨rfl,h1,h2,h3,h4,h5,h6,h7,h8⟩:=qH hk;unfold bL;dsimp only;split
  . rename_i acc g1 e1;obtain⟨items,g1,gE,w1,w2,w3,w4,w5,rfl⟩:=xX hS ct hK h3 h4 h5 h6 h7 h8 e1;exact .some (PK (jk ct h1) ct.calm (by rw[ct.N];exact eW h2) w1 w2 w3 w4 w5 λy=>h6.folded y)
  . exact .none
 case tH n' kk T it co xe=>
  have b2:=(bB (ak hk).1).1;have b3:=(bB (ak hk).1).2;obtain⟨rfl,h1,h2,h3,h4,h5,h6,h7,h8⟩:=qH (t:=kid t 1) (ak hk).2;unfold bL;dsimp only;split
  . rename_i ks g1 e1;obtain⟨items,g1,gE,w1,w2,w3,w4,w5,rfl⟩:=Gy hS ct hK h3 h4 h5 h6 h7 h8 e1;exact .some (Nk.K3 ct.calm (by have:=ct.room.units;lia) hK (Nk.QG (λb=>by have:=(ct.blk (scope:=fO (kid t 1)) h3 b).room.units;lia) hK (jk ct h1) ct.calm (by rw[ct.N];exact eW h2) w1 w2 w3 w4 λy=>h6.folded y) w5 (ct.CW _ b3) (ct.md.bn _ b2) rfl)
  . exact .none
 case dG n' kk T1 lU c1 T it co xe=>
  obtain⟨rfl,h1,h2,h3,h4,h4',h5,h5',h6,h7,h8,h9,h10⟩:=tN hk;unfold bL;dsimp only;split
  . rename_i acc g1 e1;obtain⟨items,g1,gE,w1,w2,w3,w4,w5,w6,w7,rfl⟩:=tM hS ct hK h3 h4 h4' h5 h5' h6 h7 h8 h9 h10 e1;exact .some (J1 (jk ct h1) ct.calm (by rw[ct.N];exact eW h2) w1 w2 w3 w4 w5 w6 w7 (λy=>h6.folded y) λb y=>h8.folded y)
  . exact .none
 case xM a=>
  have h1:=Cm.mk (ak hk).2;have h2:=(bB (ak (ak hk).1).1).1;have h3:=(bB (ak (ak hk).1).1).2;have h4:=(bB (ak (ak hk).1).2).1;have h5:=(bB (ak (ak hk).1).2).2;unfold bL;dsimp only
  repeat' split
  all_goals try exact .none
  rename_i j g1 e1 hj;obtain⟨hj,hl⟩:=hj;simp only[QM,eM,l9]at hj;have q:=JF (lp:=(kid t 0).pos) (pos:=t.pos) (rg_1 (p:=(kid (kid t 1) 0).pos) (rp:=(kid t 1).pos) (d9 (bC hS ct hK h1 e1) fj (h1.star _)) (ct.CW _ h3) (ct.md.bn _ h2) (h1.star _)) ct.calm (ct.CW _ h5) (ct.md.bn _ h4) rfl #[by lia,by lia,hj.1,hj.2] (by rw[Int.sub_zero];exact hl)
  rw[Int.sub_zero]at q;exact .some (q)
 case minD a=>
  have h1:=(Cm.mk (ak hk).2);have h2:=(bB (ak hk).1).1;have h3:=(bB (ak hk).1).2;unfold bL;dsimp only
  repeat' split
  all_goals try exact .none
  rename_i r0 g1 e1 _ d e2 _ x e3;exact .some (QK ct.calm (by have:=ct.room.units;lia) hK (Lv (bX (hS.e ct hK h1 e1)) e2 (h1.star _)) e2 e3 (ct.CW _ h3) (ct.md.bn _ h2) (h1.star _))
 case qw a=>
  have h1:=(Cm.mk (ak hk).2);have h2:=(bB (ak hk).1).1;have h3:=(bB (ak hk).1).2;unfold bL;dsimp only
  repeat' split
  all_goals try exact .none
  rename_i r0 g1 e1 _ l e2 _ ns e4 hl;exact .some (zu (Lv (bX (hS.e ct hK h1 e1)) e2 (h1.star _)) e2 e4 hl (ct.CW _ h3) (ct.md.bn _ h2) (h1.star _))
 case append i x=>
  obtain⟨h5,hk⟩:=ak hk;obtain⟨h1,h2,h3⟩:=jU (ak hk).1;have h4:=Cm.mk (ak hk).2;obtain⟨hd,ie⟩:=cQ h3;unfold bL;dsimp only
  repeat' split
  all_goals try exact .none
  rename_i l0 e0 _ d g1 e1 _ l e2 hl;exact .some (Ey (by rw[ct.N];exact h1) (ct.vis h2) hd ie e0 (d9 (bC hS ct hK h4 e1) fj (h4.star _)) e2 hl rfl h5 (h4.star _))
 case extend i x=>
  obtain⟨h5,hk⟩:=ak hk;obtain⟨h1,h2,h3⟩:=jU (ak hk).1;have h4:=Cm.mk (ak hk).2;obtain⟨hd,ie⟩:=cQ h3;unfold bL;dsimp only
  repeat' split
  all_goals try exact .none
  rename_i l0 e0 _ d g1 e1 _ l e2 hl;exact .some (Fg (by rw[ct.N];exact h1) (ct.vis h2) hd ie e0 (d9 (bC hS ct hK h4 e1) fj (h4.star _)) e2 hl rfl h5 (h4.star _))
 case tK i x=>
  obtain⟨h5,hk⟩:=ak hk;obtain⟨h1,h2,h3⟩:=jU (ak hk).1;have h4:=Cm.mk (ak hk).2;obtain⟨hd,ie⟩:=cQ h3;unfold bL;dsimp only
  repeat' split
  all_goals try exact .none
  rename_i l0 e0 _ j g1 e1 _ l e2 _ n e3 _ d e4 hl;exact .some (Jv (by rw[ct.N];exact h1) (ct.vis h2) hd ie e0 (d9 (bC hS ct hK h4 e1) fj (h4.star _)) e2 e3 e4 hl rfl h5 (h4.star _))
 all_goals exact Bool.noConfusion (show false=true from hk)
theorem Lw(hS:nh P rn)(hX:SndX P rn)(hF:qG P fns)(ct:bz P k X c)(hK:z.K=X.K)(hc:Cm P c e x)(h:bL rn z.bor k fns x g=!(r,g')):aB X z e g r g':=Rm hS hX hF ct hK hc r g' h
end
section
theorem Lx(hS:nh P rn)(ct:bz P k X c)(hK:z.K=X.K)(hc:Cm P c e x)(h:stepT rn z.bor k x g=!(b,g')):dz X z e g b g':=by
 have plain:(match rn.e z.bor k x g with |!(r,g1)=>(match pk (norm r) g1 with |some d=>(match PX d with |some c=>!(c,g1) |none=>none) |none=>none) |none=>none)=!(b,g')->
   (∀whole,isTrue e X.env whole=(do let v <- whole;standAt e.pos;holding [v] (truthy v)))->dz X z e g b g':=by
  intro h he
  repeat' split at h
  all_goals try contradiction
  rename_i r g1 e1 _ d e2 _ b' e3;symm;exact JD hK (bX (hS.e ct hK hc e1)) e2 e3 he
 obtain⟨n,t,rfl,hk⟩:=hc.Zn;cases x
 case cmp op a b=>
  have h1:=Cm.mk (ak hk).1;have h2:=Cm.mk (ak (ak hk).2).1;have h3:=lY (ak (ak hk).2).2;unfold stepT at h;dsimp only at h;split at h
  .
   rename_i r1 r2 g2 e1;obtain⟨s1,s2,g1,q1,q2,q3⟩:=jl e1;cases q3
   repeat' split at h
   all_goals try contradiction
   rename_i d1 d2 p1 p2 _ r0 e3;symm;exact Vu (bX (hS.e ct hK h1 q1)) (bX (hS.e ct hK h2 q2)) p1 p2 (qA hK ct.room e3) h3
  . symm
 case chain a ops xs=>
  obtain⟨k1,k2⟩:=ak hk;obtain⟨k3,k4⟩:=ak k2;obtain⟨k5,k6⟩:=ak k4;obtain⟨Wq,Wr,ops,rfl⟩:=two (dec (ak k6).1);obtain⟨x1,x2,xs,rfl⟩:=two (dec (ak k6).2);have h1:=Cm.mk k1;have h2:=fG (R:=Cm P c) .mk k3;have h3:=lY k5;unfold stepT at h;dsimp only at h;split at h
  . rename_i d1 g1 e1;exact JB (bC hS ct hK h1 e1) (Lp hS ct hK h2 h) h3
  . symm
 case not a=>
  have h1:=Cm.mk hk;unfold stepT at h;dsimp only at h;split at h
  . rename_i b' g1 e1;symm;exact Vv (hS.t ct hK h1 e1)
  . symm
 case and xs=>exact (Lq hS ct hK (fG .mk hk) h).tr
 case or xs=>exact (Rj hS ct hK (fG .mk hk) h).tr
 case ite a b d=>symm
 case val d=>exact plain h (by rw[show Xq P (fU P n) c (.val d) t=Ad d t from rfl];unfold Ad;split <;> exact λ_=>rfl)
 all_goals first |exact plain h λ_=>rfl |exact Bool.noConfusion (show false=true from hk)
theorem vj(ct:bz P k X c):PassesOwn (~~~2) X.A X.env X.xe:=by rw[ct.xe];exact PassesOwn.never
theorem qI(hb:∀{g g':G}{f:Fl},b g=!(f,g')->fz X z body g f g'):∀{items:List D}{g g':G}{f:Fl},kP T b items g=!(f,g')->gn X z body T items g f g'
 | [],_,_,_,h=>by symm;exact .nil
 |d::l,_,_,_,h=>by
  unfold kP at h;split at h
  . symm
  .
   rename_i g0 e0;split at h
   . symm
   . rename_i g1 e1;exact .next e0 (hb e1) (qI hb h)
   . rename_i g1 e1;exact .cont e0 (hb e1) (qI hb h)
   . rename_i g1 e1;symm;exact .brk e0 (hb e1)
   . rename_i g1 e1;symm;exact .ret e0 (hb e1)
theorem Af(ht:∀{g g':G}{v:Bool},t g=!(v,g')->dz X z ce g v g')(hb:∀{g g':G}{f:Fl},b g=!(f,g')->fz X z body g f g') :
  ∀{n:Nat}{g g':G}{f:Fl},TV t b n g=!(f,g')->nM X z ce body n g f g'
 | 0,_,_,_,h=>by symm
 |n+1,_,_,_,h=>by
  unfold TV at h;split at h
  . symm
  . rename_i g1 e1;symm;exact .done (ht e1)
  .
   rename_i g1 e1;split at h
   . symm
   . rename_i g2 e2;exact .next (ht e1) (hb e2) (Af ht hb h)
   . rename_i g2 e2;exact .cont (ht e1) (hb e2) (Af ht hb h)
   . rename_i g2 e2;symm;exact .brk (ht e1) (hb e2)
   . rename_i g2 e2;symm;exact .ret (ht e1) (hb e2)
theorem qJ(h:Cm P c e x)(hn:xR (λ_ _=>true) e=false)(t:Option Expr)(l:Nat)(env:Env):swapsWith e t l env=pure false:=by have hs:=h.NX;cases e <;> first |rfl |exact Bool.noConfusion (show true=false from hn) |exact Bool.noConfusion (show false=true from hs)
theorem kQ(ct:bz P k X c)(nX:c.df=true)(hl:gw c y=true):swapsWith (.ListComp a b s p) (!(.Name y py)) l X.env=pure (QV c y py p s):=by
 show (pure (X.env.blockKind==.function&&X.env.kindOf y==some .local&&py.line==(Expr.ListComp a b s p).pos.line&&(not ((s.names.any λ(n,k)=>n==y&&(k==.local||k==.cell))))):Sem Bool)=_
 rw[ct.bk nX];have e:(X.env.kindOf y==some .local)=(c.sc.names.lookup y==some .local):=by
  unfold gw at hl;split at hl
  . rename_i e;rw[e];show (X.env.scope.names.lookup y==_)=_;rw[ct.TY y e]
  . rename_i e;rw[e];show (X.env.scope.names.lookup y==_)=_;rw[ct.cel nX y e]
  . cases hl
 rw[e];rfl
theorem Gz(ct:bz P k X c)(nX:c.df=true)(hl:gw c y=true)(h:Cm P c e x)(hn:xR (λs p=>QV c y py p s) e=false):swapsWith e (!(.Name y py)) l X.env=pure false:=by have hs:=h.NX;cases e <;> first |rfl |exact Bool.noConfusion (show true=false from hn) |exact Bool.noConfusion (show false=true from hs) | (rw[kQ ct nX hl];exact congrArg pure hn)
def XF:Expr->Bool
 |.Starred ..=>true
 |_=>false
theorem Ly(h:Cm P c e x):XF e=false:=by have hs:=h.NX;cases e <;> first |rfl |exact Bool.noConfusion (show false=true from hs)
theorem XH{x:Str}{pn gG:Pos}{ix:Expr}{xi:Ex}{X:Cx}(h:Cm P c ix xi):∀v,assign (.Subscript (.Name x pn) ix gG) X.env v=(do
   let ov <- holding [v] (eval (.Name x pn) X.env)
   let iv <- holding [v,ov] (eval ix X.env)
   standAt gG
   holding [v,ov,iv] (setItem ov iv v)
   release [v,ov,iv] []):=by
 have hs:=h.NX;cases ix <;> first |exact λ_=>rfl |exact Bool.noConfusion (show false=true from hs)
theorem XJ(h:Cm P c e x)(hn:∀vs k p,e≠.Tuple vs k p):swappedStores [.Tuple es k0 pt] e env=pure none:=by cases e <;> first |rfl |exact absurd rfl (hn _ _ _) |exact Bool.noConfusion (show false=true from hs)
theorem xY{α β:Type}{f:α->Option β}:∀{l:List α}{a:α},a∈l->f a=none->(l.filterMap f).length<l.length
 |b::l,a,h,e=>by
  have hle:=List.length_filterMap_le f l;rcases eJ.mp h with rfl |h
  . rw[List.filterMap_cons_none e];exact Nat.lt_succ_of_le hle
  .
   have:=xY h e;rw[vS];split
   . exact Nat.lt_succ_of_le hle
   . rw[hV];exact Nat.succ_lt_succ this
theorem XM{es:List Expr}{k0:Nat}{pt:Pos}{e:Expr}(ct:bz P k X c)(h:QW c es e=true):swappedStores [.Tuple es k0 pt] e X.env=pure none:=by
 obtain⟨h1,h2⟩:=ak h;obtain⟨h3,h4⟩:=ak h2;obtain⟨a,ha,h5⟩:=AU.mp h4;unfold celN at h5;split at h5
 .
  rename_i x ex;obtain⟨px,rfl⟩:∃p,a=.Name x p:=by cases a <;> first | (cases ex;exact#[_,rfl]) |cases ex
  have hx:X.env.kindOf x=some .cell:=ct.cel h3 x (i4 h5);obtain⟨vs,k2,S0,rfl⟩:∃vs k p,e=.Tuple vs k p:=by cases e <;> first |exact#[_,_,_,rfl] |cases h1
  show (if _ then _ else _:Sem (Option (List Str)))=_
  split
  . rfl
  .
   show (if _ then _ else _:Sem (Option (List Str)))=_
   split
   . rfl
   .
    show (if _ then _ else _:Sem (Option (List Str)))=_
    rw[eR];rw[wT];refine .inl ?_;rw[bne_iff_ne];refine kA (xY ha ?_);simp only[hx];rfl
 . cases h5
theorem XQ(ct:bz P k X c)(h:Cm P c e x)(hn:(∀vs k p,e≠.Tuple vs k p)\/QW c es e=true):swappedStores [.Tuple es k0 pt] e X.env=pure none:=
 hn.elim (XJ h) (XM ct)
theorem XR(h:Cm P c e x):swappedStores [.Subscript (.Name y pn) ix gG] e env=pure none:=by cases e <;> first |rfl |exact Bool.noConfusion (show false=true from hs)
theorem XS(ct:bz P k X c)(h:Xj c x y px py a b=true)(ca:Cm P c a xa)(cb:Cm P c b xb):X.env.scope.names.lookup x=some .local/\X.env.scope.names.lookup y=some .local/\
  swappedStores [.Tuple [.Name x px,.Name y py] kt pt] (.Tuple [a,b] k2 S0) X.env=pure (![x,y]):=by
 unfold Xj at h;simp only[eM]at h;obtain⟨⟨⟨⟨⟨⟨h1,h2⟩,h3⟩,h4⟩,h5⟩,h6⟩,h7⟩:=h;have e1:=ct.TY x (eq_of_beq h1);have e2:=ct.TY y (eq_of_beq h2);refine#[e1,e2,?_];have hb:=ct.bk h7;have sa:=Ly ca;have sb:=Ly cb;have k1:X.env.kindOf x=some .local:=e1;have k2':X.env.kindOf y=some .local:=e2;have hxy:(y==x)=false:=by
  simp only[Bool.not_eq_true']at h4;rw[CB]at h4 ⊢
  exact λe=>h4 e.symm
 have h3':=eq_of_beq h3;show (if _ then _ else _:Sem (Option (List Str)))=_
 rw[eP (by rw[hb];simp)]
 rw[eP (by show ¬ ((XF a||(XF b||false))=true);rw[sa,sb];decide)]
 dsimp only;generalize hq:List.filterMap _ [Expr.Name x px,Expr.Name y py]=ns;have hn:ns=[x,y]:=by rw[<- hq];simp[k1,k2',h3',show (Expr.Name x px).pos=px from rfl]
 subst hn;have hd:[x,y].eraseDups.length=2:=by have iN:=CB.mp hxy;simp[List.eraseDups_cons,iN]
 rw[eP (by rw[hd];simp)]
 rw[eP (by show ¬ ((foldedForSure 8 a&&(foldedForSure 8 b&&true))=true);rw[Bool.and_true];intro z;rw[z]at h5;exact absurd h5 ⋯)]
 rw[eP (by show ¬ ((constantsAlone 8 a&&(constantsAlone 8 b&&true))=true);rw[Bool.and_true];intro z;rw[z]at h6;exact absurd h6 ⋯)]
theorem xZ(hS:nh P rn)(ct:bz P k X c)(nX:c.df=true)(hK:z.K=X.K)(hc:T8 P c s x)(h:aA rn z.bor k x g=!(f,g')):jy X z s g f g':=by
 obtain⟨mm,n,t,rfl,hk⟩:=hc.Zn;cases x
 case ret x=>
  have h1:=Cm.mk hk;unfold aA at h;dsimp only at h;split at h
  . rename_i r g1 e1;symm;exact Wd (hS.e ct hK h1 e1)
  . symm
 case expr x=>
  have h1:=Cm.mk (ak hk).1;have h2:=noC (ak hk).2;unfold aA at h;dsimp only at h;split at h
  . rename_i r g1 e1;symm;exact Pj (hS.e ct hK h1 e1) (qJ h1 h2 _ _ _)
  . symm
 case set i x=>
  have h1:=dec (ak (ak hk).1).1;have h2:=(ak (ak hk).1).2;have h3:=Cm.mk (ak (ak hk).2).1;have h4:=lY (ak (ak hk).2).2;have nm:=ct.nm h1 h2;have hsw:swapsWith (fU P (mm+1) c x (aG t 0)) (!(.Name (Ev.nm c i) (aG t 1).pos)) t.pos.line X.env=pure false:=Gz ct nX h2 h3 h4;unfold aA at h;dsimp only at h;split at h
  . symm
  .
   rename_i hb;split at h
   .
    rename_i l g1 e1;split at h
    . rename_i hl;symm;exact Pq nm.nd nm.ix nm.lc (hS.e ct hK h3 e1) hl hsw nm.fn hb
    . symm
   .
    rename_i r g1 _ e1;split at h
    . rename_i d g2 e2;symm;exact Pp nm.nd nm.ix nm.lc (Ln (hS.e ct hK h3 e1) e2) hsw nm.fn hb
    . symm
   . symm
 case setC i x=>
  obtain⟨g1,g2⟩:=ak hk;obtain⟨h2,g4⟩:=ak g2;obtain⟨h3,g6⟩:=ak g4;have h1:=dec g1;cases x
  case comp n' kk T it co xe=>
   have hl:c.sc.names.lookup (Ev.nm c i)=some .local:=by unfold QV at h2;simp only[eM]at h2;exact eq_of_beq h2.1.1
   have eZ:gw c (Ev.nm c i)=true:=by unfold gw;rw[hl]
   have nm:=ct.nm h1 eZ;unfold aA at h;dsimp only at h;split at h
   . symm
   .
    rename_i hb
    repeat' split at h
    all_goals try contradiction
    rename_i acc g1 e1 hi;symm;obtain⟨rfl,k1,k2,k3,k4,k5,k6,k7,k8⟩:=qH h3
    . obtain⟨items,g1,gE,w1,w2,w3,w4,w5,rfl⟩:=xX hS ct hK k3 k4 k5 k6 k7 k8 e1;exact PL (jk ct k1) ct.calm (by rw[ct.N];exact eW k2) w1 w2 w3 w4 w5 nm.nd nm.ix (ct.TY _ hl) hb hi (by rw[kQ ct nX eZ,h2]) λww=>k6.folded ww
  case dG n' kk T1 lU c1 T it co xe=>
   have hl:c.sc.names.lookup (Ev.nm c i)=some .local:=by unfold QV at h2;simp only[eM]at h2;exact eq_of_beq h2.1.1
   have eZ:gw c (Ev.nm c i)=true:=by unfold gw;rw[hl]
   have nm:=ct.nm h1 eZ;unfold aA at h;dsimp only at h;split at h
   . symm
   .
    rename_i hb
    repeat' split at h
    all_goals try contradiction
    rename_i acc g1 e1 hi;symm;obtain⟨rfl,k1,k2,k3,k4,k4',k5,k5',k6,k7,k8,k9,k10⟩:=tN h3
    . obtain⟨items,g1,gE,w1,w2,w3,w4,w5,w6,w7,rfl⟩:=tM hS ct hK k3 k4 k4' k5 k5' k6 k7 k8 k9 k10 e1;exact J2 (jk ct k1) ct.calm (by rw[ct.N];exact eW k2) w1 w2 w3 w4 w5 w6 w7 nm.nd nm.ix (ct.TY _ hl) hb hi (by rw[kQ ct nX eZ,h2]) (λww=>k6.folded ww) λb ww=>k8.folded ww
  all_goals exact Bool.noConfusion (show false=true from g6)
 case tgt T x=>
  obtain⟨g1,g2⟩:=ak hk;obtain⟨g3,g4⟩:=ak g2;have h2:=Cm.mk (ak g4).1;have h4:=noC (ak g4).2;cases T with
  |nm i=>cases g1
  |tp is=>
  have h1:=qC (t:=aG t 1) g3;have h3:(∀vs k p,fU P (mm+1) c x (aG t 0)≠.Tuple vs k p)\/QW c (Aa c (aG t 1) 0 is) (fU P (mm+1) c x (aG t 0))=true:=((wT _ _).mp g1).imp (λh vs k p q=>by rw[q]at h;symm) id
  unfold aA at h;dsimp only at h;split at h
  . symm
  .
   rename_i hb
   repeat' split at h
   all_goals try contradiction
   rename_i d g1 e1 _ g2 e2;symm;obtain⟨tt,q,kt⟩:=tL ct hK h1 λi hi hm=>hb (by rw[AU];exact#[i,hi,i5 hm])
   obtain⟨te,qe,ke⟩:=bC hS ct hK h2 e1;have hsw:=qJ h2 h4 (!(.Tuple (Aa c (aG t 1) 0 is) (rS (aG t 1)) (aG t 1).pos)) t.pos.line X.env;have eZ:swappedStores [.Tuple (Aa c (aG t 1) 0 is) (rS (aG t 1)) (aG t 1).pos] (fU P (mm+1) c x (aG t 0)) X.env=pure none:=XQ ct h2 h3;refine#[_,HS qe q hsw eZ rfl,λY J M H E s k2=>ke Y J M H _ s λv H1 bx M1 s1 fP R=>?_]
   exact kt d g1 _ e2 v Y bx M1 H1 _ s1 R λσ' aF s' _=>k2 σ' aF M1 H1 s' fP
 case item i xj x=>
  have h1:=(jU (ak hk).1).1;have h2:=(jU (ak hk).1).2.1;have h3:=(jU (ak hk).1).2.2;have h4:=Cm.mk (ak (ak hk).2).1;have h5:=Cm.mk (ak (ak (ak hk).2).2).1;have h6:=noC (ak (ak (ak hk).2).2).2;obtain⟨hd,ie⟩:=cQ h3;unfold aA at h;dsimp only at h
  repeat' split at h
  all_goals try contradiction
  rename_i d g1 e1 _ l0 e2 _ n g2 e3 _ l e4 _ m e5;symm;have hsw:=qJ h5 h6 (!(.Subscript (.Name (Ev.nm c i) (kid (aG t 1) 0).pos) (fU P (mm+1) c xj (kid (aG t 1) 1)) (aG t 1).pos)) t.pos.line X.env;have eZ:swappedStores [.Subscript (.Name (Ev.nm c i) (kid (aG t 1) 0).pos) (fU P (mm+1) c xj (kid (aG t 1) 1)) (aG t 1).pos] (fU P (mm+1) c x (aG t 0)) X.env=pure none:=XR h5;exact Pu (by rw[ct.N];exact h1) (ct.vis h2) hd ie (bC hS ct hK h5 e1) e2 (bC hS ct hK h4 e3) e4 e5 (XH h4) hsw eZ rfl
 case par i j a b=>
  have h1:=(dec (ak hk).1).1;have h2:=(dec (ak hk).1).2.1;have h3:=(dec (ak hk).1).2.2;have h4:=(ak (ak hk).2).1;have h5:=Cm.mk (ak (ak (ak hk).2).2).1;have h6:=Cm.mk (ak (ak (ak hk).2).2).2;unfold aA at h;dsimp only at h;split at h
  . symm
  .
   rename_i hbi;split at h
   . symm
   .
    rename_i hbj;split at h
    . rename_i d1 d2 g1 e1;symm;obtain⟨w1,w2,w3⟩:=XS ct h4 h5 h6;exact Wx ct.calm (ct.N▸ct.nd) (by rw[ct.N];exact h1) (by rw[ct.N];exact h2) h3 w1 w2 (qE hS ct hK (.cons h5 (.cons h6 .nil)) e1) hbi hbj w3 rfl
    . symm
 case ite e a b=>
  have h1:=Cm.mk (ak hk).1;have h2:=Lk.mk (ak (ak hk).2).1;have h3:=Lk.mk (ak (ak hk).2).2;unfold aA at h;dsimp only at h;split at h
  . rename_i g1 e1;exact Td (hS.t ct hK h1 e1) (by rw[eR rfl];exact hS.b ct nX hK h2 h)
  . rename_i g1 e1;exact Td (hS.t ct hK h1 e1) (by rw[eP t6];exact hS.b ct nX hK h3 h)
  . symm
 case loop T it b=>
  have h1:=qC (t:=aG t 0) (ak hk).1;have h2:=ve (R:=Cm P c) .mk (ak (ak hk).2).1;have h3:=Lk.mk (ak (ak hk).2).2;unfold aA at h;dsimp only at h;split at h
  . symm
  .
   rename_i hb;split at h
   . rename_i items g1 e1;exact Wk (vj ct) ct.calm (qF hS ct hK (xV h1) h2 e1) (tL ct hK h1 λi hi hm=>hb (by rw[AU];exact#[i,hi,i5 hm])) (qI (λe=>hS.b ct nX hK h3 e) h) λy=>h2.folded y
   . symm
 case «while» e b=>have h1:=Cm.mk (ak hk).1;have h2:=Lk.mk (ak hk).2;exact JC (vj ct) (Af (λe=>hS.t ct hK h1 e) (λe=>hS.b ct nX hK h2 e) h)
 case stuck=>symm
 all_goals exact Bool.noConfusion (show false=true from hk)
theorem Lz(hS:nh P rn)(ct:bz P k X c)(nX:c.df=true)(hK:z.K=X.K)(h:CmG P (Cm P c) (T8 P c) c ss x)(e:aA rn z.bor k x g=!(f,g')):FN X z ss g f g':=by
 cases h with
 |@rows y x mn a b tn im it iy ia ib scope N' kb j lp px rp mp Zi WD ap py pa pb Hs y1 y2 a1 a2 b1 b2 sp1 sp2 Tq Tt Tr NC ep1 ep2 J5 rpos yr tp tk h1 h2 h3 h4 h5 h6 h7 h8 h9 h10=>
  unfold aA at e;dsimp only at e;split at e
  .
   rename_i m aj gm gt;split at e
   .
    rename_i gy ga gb
    repeat' split at e
    all_goals try contradiction
    rename_i hm _ ll hF;cases e;have hl:c.sc.names.lookup y=some .local:=by have:=h3.2.1;unfold QV at this;simp only[eM]at this;exact eq_of_beq this.1.1
    have eZ:gw c y=true:=by unfold gw;rw[hl]
    obtain⟨m,rfl⟩:∃n:Nat,m=n:=#[m.toNat,by lia]
    obtain⟨dm,cm⟩:=cQ h1.2.2;obtain⟨dt,ct'⟩:=cQ h2.2.2;obtain⟨dy,cy⟩:=cQ h3.2.2;obtain⟨da,ca⟩:=cQ h4.1.2.2;obtain⟨db,cb⟩:=cQ h5.1.2.2;have ny:=ct.nm h3.1 eZ;exact zA (vj ct) hK h7.1 (by rw[ct.N];exact eW h7.2.2.1) (jk ct h7.2.1) ct.calm (λbk=>(ct.blk h7.2.2.2.1 bk).nm (by rw[ct.N];exact h7.2.2.2.2.1) h7.2.2.2.2.2) (ct.CW _ h8.2) (ct.md.bn _ h8.1) (by rw[ct.N];exact h1.1) (ct.vis h1.2.1) dm cm gm ⋯ ny.nd ny.ix (ct.TY _ hl) dy cy gy (by rw[kQ ct nX eZ,h3.2.1])
     (ct.nm h4.1.1 h4.2) (ct.vis h4.1.2.1) da ca (ct.nm h5.1.1 h5.2) (ct.vis h5.1.2.1) db cb (by rw[ct.N];exact h2.1) (ct.vis h2.2.1) dt ct' gt ga gb h6.1 h6.2.1 h6.2.2 h9 h10 hF
   . cases e
  . cases e
theorem LC(hS:nh P rn)(ct:bz P k X c)(nX:c.df=true)(hK:z.K=X.K):∀{vM:List Stmt}{xs:List Sm}{g g':G}{f:Fl},Lk P c vM xs->cP rn z.bor k xs g=!(f,g')->fz X z vM g f g':=by
 intro vM xs g g' f hc h
 induction hc generalizing g with
 |nil=>symm;exact V8
 |grp h1 h2 ih=>
  unfold cP at h;split at h
  . rename_i g1 e1;exact (Lz hS ct nX hK h1 e1).bk (ih h)
  . rename_i hn e1;symm;exact (Lz hS ct nX hK h1 e1).end λe=>hn e
  . symm
 |cons h1 h2 ih=>
  unfold cP at h;split at h
  . rename_i g1 e1;exact Ph (xZ hS ct nX hK h1 e1) (ih h)
  .
   rename_i hn e1;symm;have q:=xZ hS ct nX hK h1 e1;cases f with
   |nx=>exact absurd rfl hn
   |rt r=>exact V9 q
   |bk=>exact Wa q
   |ct=>exact Wc q
  . symm
end
theorem x6{P:Pg}{fns:List Fx}(hF:qG P fns):∀n,nh P (run fns n)
 | 0=>#[λ_ _ _ h=>(by symm),λ_ _ _ h=>(by symm),λ_ _ _ _ h=>(by symm)]
 |n+1=>
  let a:=x6 hF n
  #[λct hK hc h=>Lw a ⟨⟩ hF ct hK hc h,λct hK hc h=>Lx a ct hK hc h,λct nX hK hc h=>LC a ct nX hK hc h]
theorem Ro{P:Pg}{fns:List Fx}(hF:qG P fns)(n:Nat):nh P (run fns n):=x6 hF n
def Rp(K:Frag)(mg:Str->Option Value)(fi:Fi):Prop:=
 ∃f fd,mg fi.name=!(.ref f)/\Fun K fi.name fi.qual fi.st f fd/\fQ fi.N fi.ps (aR fi.st)/\(∀us:List Value,us.length=fi.ps.length->bindArgs fd #[us,[]]=pure (fi.ps.zip us))/\(fi.name==(~~~3))=false
def LK(K:Frag)(mg:Str->Option Value)(p:Str×D):Prop:=(p.1==(~~~3))=false/\∃v u,mg p.1=!u/\RelV v u/\∀M H,Rep K M H p.2 v
inductive All{α:Type}(p:α->Prop):List α->Prop
 |nil:All p []
 |cons {a:α}{l:List α}:p a->All p l->All p (a::l)
theorem All.mem{α:Type}{p:α->Prop}:∀{l:List α},All p l->∀a∈l,p a:=by
 intro l h
 induction h with
 |nil=>intro a h;symm
 |cons h t ih=>
  intro a hm;rcases eJ.mp hm with rfl |hm
  . exact h
  . exact ih a hm
structure XT(P:Pg)(K:Frag)(mg:Str->Option Value):Prop where
 lam:P.lam=true->∀n∈wu,∀gj,PySem.W.codeIn K gj n=true->Xe K mg n gj
 TX:∀(i:Nat) (C:Addr),P.TX[i]?=!C->∃x,P.cls[i]?=!x/\mg x=!(.ref C)/\Fv K C/\ExK K C
 kt:P.lam=true->(P.kt==(~~~3))=false/\∃D,mg P.kt=!(.ref D)/\Fv K D/\∀C∈P.TX,upIn K C D=true
 ups:∀(x:Str) (l:List (Addr×Bool)),(x,l)∈P.ups->(x==(~~~3))=false/\∃cv,((mg x=!cv/\∃D,cv=.ref D)\/(x∈P.bn/\x≠ "__name__" /\bootBuiltins x=!cv/\∃n,cv=.type n))/\PySem.W.kitOne K (.type "NoneType") cv=!false/\∀C b,l.lookup C=!b->PySem.W.kitOne K (.ref C) cv=!b
theorem Rq{P:Pg}{K:Frag}{mg:Str->Option Value}(h1:P.lam=false)(h2:P.TX=[])(h3:P.ups=[]):XT P K mg:=
 #[λh=>(by rw[h1]at h;symm),λi C h=>(by rw[h2]at h;symm),λh=>(by rw[h1]at h;symm),λx l h=>(by rw[h3]at h;symm)]
theorem md_mk{P:Pg}{K:Frag}{mg:Str->Option Value}(h1:All (Rp K mg) P.fn)(h2:All (LK K mg) P.ct)(h3:All (λx=>mg x=none) P.bn)(h4:All (λx=>(x==(~~~3))=false/\∃C,mg x=!(.ref C)/\Fv K C) P.cls)(h5:XT P K mg):Gu P K mg:=
 #[λi fi e=>by obtain⟨f,fd,q1,q2,q3,q4,q5⟩:=h1.mem fi (i8 e);exact#[f,fd,q1,q2,q3,.all q4,q5],λx d h=>h2.mem (x,d) h,λx h=>h3.mem x h,λx h=>h4.mem x h,h5.lam,h5.TX,h5.kt,h5.ups]
def BdOk(fi:Fi):Prop:=∀(kV doc pm:Value) (an:Option Addr) (gj ct:Value) (us:List Value),us.length=fi.ps.length->bindArgs (PySem.W.fnOf fi.name fi.qual (ji fi.st) (bV fi.st) (aR fi.st) .none kV doc pm an gj ct) #[us,[]]=pure (fi.ps.zip us)
section
variable{K:Frag}
theorem fi_mk{fi:Fi}{oc:Value}{od an:Option Addr}{osl:Array (Option Value)}{kV doc pm gj ct:Value}(X:K.In h)(G:h.Ns mainGlobals mg)(a:PySem.W.nsIn K mainGlobals fi.name=!(!(.ref f)))
  (l:K.lookup f=!#[oc,od,.func (PySem.W.fnOf fi.name fi.qual (ji fi.st) (bV fi.st) (aR fi.st) .none kV doc pm an gj ct),osl]) (c:PySem.W.codeIn K gj fi.qual=true) (k:PySem.W.keepIn K (.ref f)=true)
  (sc:fQ fi.N fi.ps (aR fi.st)) (hb:BdOk fi)
  (hd:(fi.name==(~~~3))=false):Rp K mg fi:=
 let F:=Vj l c k
 #[f,_,PySem.W.mg_of X G a,F,sc,hb kV doc pm an gj ct,hd]
theorem Ag(X:K.In h)(G:h.Ns mainGlobals mg)(a:PySem.W.nsIn K mainGlobals x=!(!(.int i t)))(hd:(x==(~~~3))=false):LK K mg (x,.int i):=
 #[hd,.int i,.int i t,PySem.W.mg_of X G a,#[t,rfl],λ_ _=>.int i]
theorem XX{P:Pg}{fns:List Fx}{prog:Program}{w:World}{base:Heap}(hF:qG P fns)(md:Gu P K mg){i:Nat}{fi:Fi}{fx:Fx}{x:Str}{fd:FuncData}{n k:Nat}(hfi:P.fn[i]?=!fi)(Hz:fns[i]?=!fx)(hp:fi.ps=[x])(F:Fun K fi.name fi.qual fi.st f fd)(sc:fQ fi.N fi.ps (aR fi.st)) :
  rH prog w K mg base NB (k+1) f fd [x] (Wf K fi.N 1 λbor g r g'=>(run fns n).b bor k fx.body g=!(.rt r,g')):=by
 have:=Tf (P:=prog) (w:=w) (base:=base) (run:=λbor g r g'=>(run fns n).b bor k fx.body g=!(.rt r,g')) F sc λgj A outer s H E ie hr z g r g' hK hrun=>
  #[_,(Ro hF n).b (xW sc md ie hr) rfl hK (hF i fi fx hfi Hz).body hrun,.inl rfl]
 rw[hp]at this;exact this
theorem LQ{P:Pg}{fns:List Fx}{prog:Program}{w:World}(hF:qG P fns)(md:Gu P K mg){i:Nat}{fi:Fi}{fx:Fx}{x:Str}{n k:Nat}(hfi:P.fn[i]?=!fi)(Hz:fns[i]?=!fx)(hp:fi.ps=[x])(h:Rp K mg fi)(hm:mg fi.name=!(.ref f)) :
  ∃fd:FuncData,(∀(s:Shared) (u:Value),BindsTo s fd #[[u],[]] [(x,u)])/\∀base:Heap,K.In base->base.Ns mainGlobals mg->rH prog w K mg base NB (k+1) f fd [x] (Wf K fi.N 1 λbor g r g'=>(run fns n).b bor k fx.body g=!(.rt r,g')):=by
 obtain⟨f',fd,q1,q2,q3,q4,q5⟩:=h;rw[hm]at q1;cases q1;refine#[fd,λs u=>.of_eq ?_,λbase _ _=>XX hF md hfi Hz hp q2 q3]
 have:=q4 [u] (by rw[hp];rfl)
 rw[hp]at this;exact this
theorem XZ{N:List Str}{run:List Nat->G->R->G->Prop}(hev:∀ns:List Int,ns.length<=63->∃g',run [] (fB N.length [.dat (.fix (ns.map .int))]) (.dat (.bl true)) g')(K:Frag)(H:Hp)(a:Addr)(ns: ~~~0)(hl:ns.length<=63)(hO:Cg ((fh K).map (·.1)) H)(hS:cZ K H a (ns.map V.int)) :
  Wf K N 1 run [.ref a] H (λv _=>v=.bl true) λ_ _ _=>False:=by
 obtain⟨g',hg⟩:=hev ns hl;have fx:sH K ((fh K).map (·.1)) H a (ns.map V.int):=by
  rcases hS with h |h
  .
   rcases hO a with ⟨_,z⟩ |⟨na,z⟩
   . rcases h with h |⟨o,h⟩ <;> (rw[z]at h;symm)
   .
    refine .inl #[na,?_];rcases h with h |h
    .
     rcases z with z |⟨o,xs,z⟩
     . rw[z]at h;symm
     . rw[z]at h;symm
    . exact h
  . exact .inr (.inr h)
 have rr:∀ns:List Int,aH K ((fh K).map (·.1)) H (ns.map D.int) (ns.map V.int):=λns=>by
  induction ns with
  |nil=>exact .nil
  |cons n ns ih=>exact .cons (.int n) ih
 have tb:∀p∈fh K,H p.1=!(.Ht ([].toArray)):=λp hp=>by
  rcases hO p.1 with ⟨_,z⟩ |⟨z,_⟩
  . exact z
  . exact absurd (eC.mpr #[p,hp,rfl]) z
 refine#[rfl,#[K,H,(fh K).map (·.1),[],fh K],fB N.length [.dat (.fix (ns.map .int))],g',[],(fh K).map (·.1),.dat (.bl true),rfl,?_,hg,λv σ' aF M' H' s' st R=>gS R]
 refine#[?_,qS,(λa ha=>nomatch ha),λi b l e1 e2=>?_,(λm hm=>.inr hm),(λb o e _ _=>e),(λm hm=>hm),(λm hm=>?_),(λb hb=>nomatch hb),(λp hp=>nomatch hp),(λp hp=>#[([].toArray),tb p hp,trivial,λpos cv e=>nomatch e]),(λp hp=>eC.mpr #[p,hp,rfl]),rfl]
 . exact Slots.append (.dat (.fix fx (rr ns)) .nil) (Slots.nos _)
 .
  exfalso;unfold fB at e1;cases i with
  |zero=>simp at e1
  |succ i=>rw[eI ⋯]at e1;have:=i8 e1;rw[w9]at this;exact absurd this.2 ⋯
 . obtain⟨p,hp,rfl⟩:=eC.mp hm;intro z;have z:H p.1=none:=z;rw[tb p hp]at z;cases z
end
noncomputable abbrev Fi.ct(fi:Fi):Ct:=#[fi.N,aR fi.st,true,fi.qual]
def De(P:Pg)(fi:Fi)(fx:Fx):List Stmt:=rU (Xu P 99 (T6 P 99 20 fi.ct) fi.ct) (T6 P 99 20 fi.ct) fx.body (bV fi.st)
def fxB(P:Pg)(fi:Fi)(fx:Fx):Bool:=decide (fx.np=fi.ps.length)&&(decide (fx.n=fi.N.length)&&NT (Xv P 99 (T7 P 99 20 fi.ct) fi.ct) (T7 P 99 20 fi.ct) fx.body (bV fi.st))
theorem X3(e:De P fi fx=bV fi.st)(h:fxB P fi fx=true):Rl P fi fx:=#[dec (ak h).1,dec (ak (ak h).2).1,Eq.mp (congrArg (λl=>Lk P fi.ct l fx.body) e) (Lk.mk (ak (ak h).2).2)]
def Rr(P:Pg):List Fi->List Fx->Bool
 |fi::l,fx::r=>fxB P fi fx&&Rr P l r
 |_,_=>true
theorem Rt(e:List.zipWith (De P) l r=l.map λfi=>bV fi.st)(h:Rr P l r=true)(f:Nat)(fi:Fi)(fx:Fx)(h1:l[f]?=!fi)(h2:r[f]?=!fx):Rl P fi fx:=by
 induction l generalizing r f with
 |nil=>cases h1
 |cons a l ih=>cases r with
  |nil=>cases h2
  |cons b r=>
   cases f with
   |zero=>cases h1;cases h2;exact X3 (List.cons.inj e).1 (ak h).1
   |succ f=>exact ih (List.cons.inj e).2 (ak h).2 f h1 h2
theorem X4(h:Rr P P.fn fns=true)(e:List.zipWith (De P) P.fn fns=P.fn.map λfi=>bV fi.st):qG P fns:=λf fi fx h1 h2=>Rt e h f fi fx h1 h2
theorem len1(h:us.length=1):∃a,us=[a]:=by
 cases us with
 |nil=>symm
 |cons a us=>cases us with
  |nil=>exact#[a,rfl]
  |cons _ _=>symm
theorem len2(h:us.length=2):∃a b,us=[a,b]:=by
 cases us with
 |nil=>symm
 |cons a us=>obtain⟨b,rfl⟩:=len1 (B0 h);exact#[a,b,rfl]
theorem len3(h:us.length=3):∃a b c,us=[a,b,c]:=by
 cases us with
 |nil=>symm
 |cons a us=>obtain⟨b,c,rfl⟩:=len2 (B0 h);exact#[a,b,c,rfl]
def bN(st:Stmt):Fi:=match st with
 |.FunctionDef name args _ _ _ _ scope _ _ _=>#[name,name,st,(args.args.map (·.arg))++scope.names.filterMap (λy=>if (y.2==.local||y.2==.cell)&&(not ((args.args.map (·.arg)).contains y.1)) then some y.1 else none),args.args.map (·.arg)]
 |st=>#["", "",st,[],[]]
theorem six{p:Nat->Prop}{m:Nat}(hm:1<=m/\m<=6)(a:p 1)(b:p 2)(c:p 3)(d:p 4)(e:p 5)(f:p 6):p m:=by rcases (by lia:m=1\/m=2\/m=3\/m=4\/m=5\/m=6)with rfl |rfl |rfl |rfl |rfl |rfl <;> assumption
section
theorem LR(ds:List D):∀i,vars i (ds.map R.dat)=[]:=by
 induction ds with
 |nil=>intro i;rfl
 |cons d ds ih=>intro i;exact ih (i+1)
theorem LW(ds:List D):dF (ds.map R.dat) g1=!(ds.map .dat):=by
 induction ds with
 |nil=>rfl
 |cons d ds ih=>
  show (match dF (ds.map R.dat) g1 with |some gs=>!(Slot.dat d::gs) |none=>none)=_
  rw[ih];rfl
noncomputable def X5:List D->G
 | []=>[]
 |d::l=>.dat d::X5 l
theorem Ru(ds:List D):X5 ds=ds.map .dat:=by
 induction ds with
 |nil=>rfl
 |cons d ds ih=>rw[X5,ih];rfl
def bA(rn:Rn)(k:Nat)(fx:Fx)(ds:List D):Option R:=match rn.b [] k fx.body (fB fx.n (X5 ds))with
 |!(.rt r,gc)=>jM [] gc r
 |!(.nx,_)=>!(.dat .non)
 |_=>none
theorem mh(hl:ds.length=fx.np):aX rn fx k (ds.map .dat) g1=(bA rn k fx ds).map λr=>(r,g1):=by
 unfold aX bA;rw[LR,LW,Ru];simp only[d6,hl,List.map_nil];cases rn.b [] k fx.body (fB fx.n (ds.map .dat))with
 |none=>rfl
 |some p=>
  obtain⟨f,gc⟩:=p;cases f with
  |nx=>rfl
  |rt r=>simp only[back];cases jM [] gc r <;> rfl
  |bk=>rfl
  |ct=>rfl
noncomputable def gM(g m:G)(acc:List D):G:=g++(m++[.own acc])
theorem eX{g m:G}{acc:List D}{i:Nat}(h:i<g.length):(gM g m acc)[i]?=g[i]?:=by unfold gM;rw[dL h]
theorem bR{g m:G}{acc:List D}{i:Nat}(h:i<m.length):(gM g m acc)[g.length+i]?=m[i]?:=by unfold gM;rw[eI ⋯,sB,dL h]
theorem fV:(gM g m acc)[g.length+m.length]?=!(.own acc):=by unfold gM;rw[eI ⋯,sB,eI (eD _),B6];rfl
theorem dQ(h:i<m.length):(gM g m acc).set (g.length+i) s=gM g (m.set i s) acc:=by unfold gM;rw[AE _ _ ⋯,sB,Co _ _ h]
theorem iZ:(gM g m acc).set (g.length+m.length) (.own acc')=gM g m acc':=by unfold gM;rw[AE _ _ ⋯,sB,AE _ _ (eD _),B6];rfl
theorem kT:(gM g m acc).take g.length=g:=by unfold gM;simp
theorem x8:gC kk g=gM g (List.replicate kk .no) []:=rfl
theorem jc{α:Type}(cR:α->D)(f:α->D)(p:α->Bool)(st:α->G->G)(I:G->Prop)(hI:∀m,I m->m.length=kk)(bW:last=g.length+kk)(eZ:∀d m,I m->I (st d m)) :
  ∀(items:List α) (m:G) (acc:List D),I m->acc.length+items.length<=lim->
  (∀d∈items,∀m acc,I m->T.set (cR d) (gM g m acc)=!(gM g (st d m) acc))->
  (∀d∈items,∀m acc,I m->nP rn bor k c (gM g (st d m) acc)=!(p d,gM g (st d m) acc))->
  (∀d∈items,p d=true->∀m acc,I m->fT rn bor k e (gM g (st d m) acc)=!(f d,gM g (st d m) acc))->
  ∃m',I m'/\zS rn bor k T last c e (items.map cR) (gM g m acc)=!(gM g m' (acc++(items.filter p).map f))
 | [],m,acc,hm,_,_,_,_=>#[m,hm,by simp[zS]]
 |d::items,m,acc,hm,hl,hT,hi,he=>by
  rw[hV]at hl;have q1:=hT d b0 m acc hm;have q2:=hi d b0 m acc hm;have hm':=eZ d m hm;have hk:=hI _ hm';rw[List.map_cons];unfold zS;rw[q1];dsimp only;rw[q2];cases hp:p d with
  |false=>
   dsimp only;obtain⟨m',w1,w2⟩:=jc cR f p st I hI bW eZ items (st d m) acc hm' ⋯ (λx hx=>hT x (bP _ hx)) (λx hx=>hi x (bP _ hx)) (λx hx=>he x (bP _ hx))
   exact#[m',w1,by rw[w2,List.filter_cons,hp];rfl]
  |true=>
   have q3:=he d b0 hp m acc hm;dsimp only;rw[q3];dsimp only;have q4:(gM g (st d m) acc)[last]?=!(.own acc):=by rw[bW,<- hk];exact fV
   rw[q4];dsimp only;rw[eR ⋯];have q5:(gM g (st d m) acc).set last (.own (acc++[f d]))=gM g (st d m) (acc++[f d]):=by rw[bW,<- hk];exact iZ
   rw[q5];obtain⟨m',w1,w2⟩:=jc cR f p st I hI bW eZ items (st d m) (acc++[f d]) hm' (by rw[fA,tJ];lia) (λx hx=>hT x (bP _ hx)) (λx hx=>hi x (bP _ hx)) (λx hx=>he x (bP _ hx))
   refine#[m',w1,?_];rw[w2,List.filter_cons,hp];simp
theorem Rv{α:Type}(cR:α->D)(f:α->D)(p:α->Bool)(st:α->G->G)(bW:last=g.length+kk)(eZ:∀d m,m.length=kk->(st d m).length=kk) :
  ∀(items:List α) (m:G) (acc:List D),m.length=kk->acc.length+items.length<=lim->
  (∀d∈items,∀m acc,m.length=kk->T.set (cR d) (gM g m acc)=!(gM g (st d m) acc))->
  (∀d∈items,∀m acc,m.length=kk->nP rn bor k c (gM g (st d m) acc)=!(p d,gM g (st d m) acc))->
  (∀d∈items,p d=true->∀m acc,m.length=kk->fT rn bor k e (gM g (st d m) acc)=!(f d,gM g (st d m) acc))->
  ∃m',m'.length=kk/\zS rn bor k T last c e (items.map cR) (gM g m acc)=!(gM g m' (acc++(items.filter p).map f)):=
 jc cR f p st (λm=>m.length=kk) (λ_ h=>h) bW eZ
theorem tO{α:Type}{kk nn:Nat}{T:Tg}{it:Ex}{c:Option Ex}{e:Ex}(items:List α)(cR:α->D)(f:α->D)(p:α->Bool)(st:α->G->G)(hw:cN rn bor k T.iC it g=!(items.map cR,g1))(hn:nn=g1.length)(hb:(T.ix.any λi=>decide (i∈bor))=false)(hl:items.length<=lim)(eZ:∀d m,m.length=kk->(st d m).length=kk)
  (hT:∀d∈items,∀m acc,m.length=kk->T.set (cR d) (gM g1 m acc)=!(gM g1 (st d m) acc))
  (hi:∀d∈items,∀m acc,m.length=kk->nP rn bor k c (gM g1 (st d m) acc)=!(p d,gM g1 (st d m) acc))
  (he:∀d∈items,p d=true->∀m acc,m.length=kk->fT rn bor k e (gM g1 (st d m) acc)=!(f d,gM g1 (st d m) acc)) :
  bS rn bor k nn kk T it c e g=!((items.filter p).map f,g1):=by
 subst hn;obtain⟨m',w1,w2⟩:=Rv cR f p st rfl eZ items (List.replicate kk .no) [] ⋯ (by simpa using hl) hT hi he
 unfold bS;rw[hw];dsimp only;rw[eR #[rfl,hb],x8,w2];dsimp only;have:(gM g1 m' ([]++(items.filter p).map f))[g1.length+kk]?=!(.own ([]++(items.filter p).map f)):=by rw[<- w1];exact fV
 rw[this];rw[kT,AX]
theorem qK{j kk:Nat}{d:D}{m:G}{acc:List D}(hj:g.length<=j)(hk:j - g.length<m.length):(Tg.nm j).set d (gM g m acc)=!(gM g (m.set (j - g.length) (.dat d)) acc):=by
 show some ((gM g m acc).set j (.dat d))=_;have:=dQ (g:=g) (acc:=acc) (s:=.dat d) hk;rw[show g.length+(j - g.length)=j by lia]at this
 rw[this]
def qL(g:G)(j:Nat)(d:D)(G':G):Prop:=(∀i,i<g.length->G'[i]?=g[i]?)/\G'[j]?=!(.dat d)
theorem Df{α:Type}{kk nn j:Nat}{it:Ex}{c:Option Ex}{e:Ex}(items:List α)(cR:α->D)(p:α->Bool)(f:α->D)(hw:cN rn bor k false it g=!(items.map cR,g1))(hn:nn=g1.length)(hj1:g1.length<=j)(hj2:j<g1.length+kk)(hb:j∉bor)(hl:items.length<=lim)
  (hi:∀a∈items,∀G',qL g1 j (cR a) G'->nP rn bor k c G'=!(p a,G')) (he:∀a∈items,p a=true->∀G',qL g1 j (cR a) G'->fT rn bor k e G'=!(f a,G')) :
  bS rn bor k nn kk (.nm j) it c e g=!((items.filter p).map f,g1):=by
 have sees:∀(a:α) (m:G) (acc:List D),m.length=kk->qL g1 j (cR a) (gM g1 (m.set (j - g1.length) (.dat (cR a))) acc):=λa m acc hm=>by
  refine#[λi hi=>eX hi,?_]
  have:=bR (g:=g1) (m:=m.set (j - g1.length) (.dat (cR a))) (acc:=acc) (i:=j - g1.length) (by simp;lia)
  rw[show g1.length+(j - g1.length)=j by lia]at this
  rw[this,gL ⋯]
 refine tO items cR f p (λa m=>m.set (j - g1.length) (.dat (cR a))) hw hn (by simp[Tg.ix,hb]) hl (λd m hm=>by simpa using hm) (λa _ m acc hm=>qK (kk:=kk) hj1 ⋯) (λa ha m acc hm=>hi a ha _ (sees a m acc hm)) λa ha hp m acc hm=>he a ha hp _ (sees a m acc hm)
theorem filter_all{α:Type}(l:List α):l.filter (λ_=>true)=l:=List.filter_eq_self.mpr λ_ _=>rfl
theorem kU{α:Type}(items:List α)(cR:α->D)(f:α->D)(hw:cN rn bor k false it g=!(items.map cR,g1))(hn:nn=g1.length)(hj1:g1.length<=j)(hj2:j<g1.length+kk)(hb:j∉bor)(hl:items.length<=lim)
  (he:∀a∈items,∀G',qL g1 j (cR a) G'->fT rn bor k e G'=!(f a,G')):bS rn bor k nn kk (.nm j) it none e g=!(items.map f,g1):=by
 have:=Df (c:=none) items cR (λ_=>true) f hw hn hj1 hj2 hb hl (λ_ _ _ _=>rfl) λa ha _ G' hG=>he a ha G' hG
 rw[filter_all]at this;exact this
def fW(g:G)(j1 j2:Nat)(d1 d2:D)(G':G):Prop:=(∀i,i<g.length->G'[i]?=g[i]?)/\G'[j1]?=!(.dat d1)/\G'[j2]?=!(.dat d2)
theorem dG{α:Type}(items:List α)(aM bq:α->D)(p:α->Bool)(f:α->D)(hw:cN rn bor k true it g=!(items.map λa=>.tup [aM a,bq a],g1))(hn:nn=g1.length)(hj1:g1.length<=j1)(hj1':j1<g1.length+kk)(hj2:g1.length<=j2)(hj2':j2<g1.length+kk)(iN:j1≠j2)(hb1:j1∉bor)(hb2:j2∉bor)(hl:items.length<=lim)
  (hi:∀a∈items,∀G',fW g1 j1 j2 (aM a) (bq a) G'->nP rn bor k c G'=!(p a,G')) (he:∀a∈items,p a=true->∀G',fW g1 j1 j2 (aM a) (bq a) G'->fT rn bor k e G'=!(f a,G')) :
  bS rn bor k nn kk (.tp [j1,j2]) it c e g=!((items.filter p).map f,g1):=by
 have sees:∀(a:α) (m:G) (acc:List D),m.length=kk->fW g1 j1 j2 (aM a) (bq a) (gM g1 ((m.set (j1 - g1.length) (.dat (aM a))).set (j2 - g1.length) (.dat (bq a))) acc):=λa m acc hm=>by
  refine#[λi hi=>eX hi,?_,?_]
  .
   have:=bR (g:=g1) (m:=(m.set (j1 - g1.length) (.dat (aM a))).set (j2 - g1.length) (.dat (bq a))) (acc:=acc) (i:=j1 - g1.length) (by simp;lia)
   rw[show g1.length+(j1 - g1.length)=j1 by lia]at this
   rw[this,fR ⋯,gL ⋯]
  .
   have:=bR (g:=g1) (m:=(m.set (j1 - g1.length) (.dat (aM a))).set (j2 - g1.length) (.dat (bq a))) (acc:=acc) (i:=j2 - g1.length) (by simp;lia)
   rw[show g1.length+(j2 - g1.length)=j2 by lia]at this
   rw[this,gL (by simp;lia)]
 refine tO items (λa=>.tup [aM a,bq a]) f p (λa m=>(m.set (j1 - g1.length) (.dat (aM a))).set (j2 - g1.length) (.dat (bq a))) hw hn (by simp[Tg.ix,hb1,hb2]) hl (λd m hm=>by simpa using hm) (λa _ m acc hm=>?_) (λa ha m acc hm=>hi a ha _ (sees a m acc hm)) λa ha hp m acc hm=>he a ha hp _ (sees a m acc hm)
 have q1:=dQ (g:=g1) (m:=m) (acc:=acc) (i:=j1 - g1.length) (s:=.dat (aM a)) ⋯;have q2:=dQ (g:=g1) (m:=m.set (j1 - g1.length) (.dat (aM a))) (acc:=acc) (i:=j2 - g1.length) (s:=.dat (bq a)) (by simp;lia)
 rw[show g1.length+(j1 - g1.length)=j1 by lia]at q1
 rw[show g1.length+(j2 - g1.length)=j2 by lia]at q2
 show some (((gM g1 m acc).set j1 (.dat (aM a))).set j2 (.dat (bq a)))=_;rw[q1,q2]
theorem Ah{α:Type}(items:List α)(aM bq:α->D)(f:α->D)(hw:cN rn bor k true it g=!(items.map λa=>.tup [aM a,bq a],g1))(hn:nn=g1.length)(hj1:g1.length<=j1)(hj1':j1<g1.length+kk)(hj2:g1.length<=j2)(hj2':j2<g1.length+kk)(iN:j1≠j2)(hb1:j1∉bor)(hb2:j2∉bor)(hl:items.length<=lim)
  (he:∀a∈items,∀G',fW g1 j1 j2 (aM a) (bq a) G'->fT rn bor k e G'=!(f a,G')):bS rn bor k nn kk (.tp [j1,j2]) it none e g=!(items.map f,g1):=by
 have:=dG (c:=none) items aM bq (λ_=>true) f hw hn hj1 hj1' hj2 hj2' iN hb1 hb2 hl (λ_ _ _ _=>rfl) λa ha _ G' hG=>he a ha G' hG
 rw[filter_all]at this;exact this
theorem Dg(I:Nat->G->Prop)(step:∀m g,I (m+1) g->∃g1 g2,c g=!(true,g1)/\b g1=!(.nx,g2)/\I m g2)(fin:∀g,I 0 g->c g=!(false,g)) :
  ∀m N g,m<N->I m g->∃g',I 0 g'/\TV c b N g=!(.nx,g')
 | 0,N+1,g,_,h=>#[g,h,by unfold TV;rw[fin g h]]
 |m+1,N+1,g,hN,h=>by
  obtain⟨g1,g2,q1,q2,q3⟩:=step m g h;obtain⟨g',w1,w2⟩:=Dg I step fin m N g2 ⋯ q3;exact#[g',w1,by unfold TV;rw[q1];dsimp only;rw[q2];exact w2]
theorem bM{α:Type}(cR:α->D)(I:List α->G->Prop)(step:∀a l g,I (a::l) g->∃g1 g2,T.set (cR a) g=!g1/\b g1=!(.nx,g2)/\I l g2):∀l g,I l g->∃g',I [] g'/\kP T b (l.map cR) g=!(.nx,g')
 | [],g,h=>#[g,h,rfl]
 |a::l,g,h=>by
  obtain⟨g1,g2,q1,q2,q3⟩:=step a l g h;obtain⟨g',w1,w2⟩:=bM cR I step l g2 q3;exact#[g',w1,by rw[List.map_cons];unfold kP;rw[q1];dsimp only;rw[q2];exact w2]
end
theorem ints_map(l: ~~~0):bH (l.map .int)=!l:=by
 induction l with
 |nil=>rfl
 |cons a l ih=>simp[bH,ih]
theorem Rx(l:List Bool):wD (l.map .bl)=!l:=by
 induction l with
 |nil=>rfl
 |cons a l ih=>simp[wD,ih]
theorem x9(l: ~~~5)(h:∀x∈l,x≠[]):gW (l.map λx=>.tup (x.map .int))=!l:=by
 induction l with
 |nil=>rfl
 |cons a l ih=>
  have ha:=h a b0;cases a with
  |nil=>exact absurd rfl ha
  |cons x a=>
   have:=ints_map (x::a);simp only[List.map_cons]at this ⊢
   simp only[gW,this,ih λy hy=>h y (bP _ hy)]
theorem GC(a: ~~~0)(l: ~~~5):bH ((a::l).map λ(x: ~~~0)=>.tup (x.map .int))=none:=rfl
theorem L0(l:List D):jH .len [.tup l]=!(.dat (.int l.length)):=rfl
theorem L1(l:List D):jH .len [.lst l]=!(.dat (.int l.length)):=rfl
theorem qM(l:List D):jH .len [.fix l]=!(.dat (.int l.length)):=rfl
theorem GD(l:List D):jH .list [.tup l]=!(.new l):=rfl
theorem GF(l:List D):jH .list [.lst l]=!(.new l):=rfl
theorem Ai(l:List D):jH .tuple [.lst l]=!(.dat (.tup l)):=rfl
theorem Aj(l:List D):jH .tuple [.tup l]=!(.dat (.tup l)):=rfl
theorem vn(i j:Int):jH .max [.int i,.int j]=!(.dat (.int (if j > i then j else i))):=rfl
theorem Dh(i j:Int):jH .min [.int i,.int j]=!(.dat (.int (if j<i then j else i))):=rfl
theorem X6(l:List Bool):jH .all [.lst (l.map .bl)]=!(.dat (.bl (l.all id))):=by simp only[jH,QL,Rx]
theorem yc(l: ~~~0)(h:l.length<64):jH .sorted [.lst (l.map .int)]=!(.new ((bO l).map .int)):=by simp only[jH,QL,dJ,ints_map,h,CU]
theorem L5(l: ~~~0):jH .sum [.tup (l.map .int)]=!(.dat (.int l.sum)):=by simp only[jH,QL,dJ,ints_map]
theorem L7(l: ~~~0):jH .sum [.lst (l.map .int)]=!(.dat (.int l.sum)):=by simp only[jH,QL,dJ,ints_map]
theorem fH(l: ~~~5)(hn:∀x∈l,x≠[])(h:l.length<64):jH .sorted [.lst (l.map λx=>.tup (x.map .int))]=!(.new ((aN dD l).map λx=>.tup (x.map .int))):=by
 cases l with
 |nil=>rfl
 |cons a l=>have e:=x9 (a::l) hn;simp only[jH,QL,dJ,GC,e,h,CU]
theorem eY:∀a b:List Int,bY (a.map .int) (b.map .int)=decide (a=b)
 | [],[]=>rfl
 | [],_::_=>rfl
 |_::_,[]=>rfl
 |x::a,y::b=>by
  simp only[List.map_cons,bY,eY a b,A3,CI];rfl
theorem gZ(a: ~~~0):cO (a.map .int)=true:=by
 induction a with
 |nil=>rfl
 |cons x a ih=>simp[cO,gH,ih]
theorem g7(a: ~~~0):deps (a.map .int)=0:=by
 induction a with
 |nil=>rfl
 |cons x a ih=>simp[deps,dep,ih]
theorem tQ(a b: ~~~0):lW (.tup (a.map .int)) (.tup (b.map .int))=true:=by simp[lW,gH,gZ,dep,g7]
theorem qN(a b: ~~~0):lW (.lst (a.map .int)) (.lst (b.map .int))=true:=by simp[lW,gH,gZ,dep,g7]
theorem X7(a b: ~~~0):cY .Eq (.tup (a.map .int)) (.tup (b.map .int))=!(decide (a=b)):=by simp only[cY,tQ,CU,cS,eY]
theorem vo(a b: ~~~0):cY .NotEq (.tup (a.map .int)) (.tup (b.map .int))=!((not (decide (a=b)))):=by simp only[cY,tQ,CU,cS,eY]
theorem X8(a b: ~~~0):cY .Eq (.lst (a.map .int)) (.lst (b.map .int))=!(decide (a=b)):=by simp only[cY,qN,CU,cS,eY]
theorem L8(a b: ~~~0):cY .NotEq (.lst (a.map .int)) (.lst (b.map .int))=!((not (decide (a=b)))):=by simp only[cY,qN,CU,cS,eY]
theorem Ma(a b:Int):cY .Eq (.int a) (.int b)=!(decide (a=b)):=rfl
theorem Yb(a b:Int):cY .NotEq (.int a) (.int b)=!((not (decide (a=b)))):=rfl
theorem Yc(a b:Int):cY .Lt (.int a) (.int b)=!(decide (a<b)):=rfl
theorem Yd(a b:Int):cY .LtE (.int a) (.int b)=!(decide (a<=b)):=rfl
theorem Ye(a b:Int):cY .Gt (.int a) (.int b)=!(decide (a > b)):=rfl
theorem Yg(a b:Int):cY .GtE (.int a) (.int b)=!(decide (a ≥ b)):=rfl
theorem Ry(a b:Int):nO .Add (.int a) (.int b)=!(.dat (.int (a+b))):=rfl
theorem Rz(a b:Int):nO .Sub (.int a) (.int b)=!(.dat (.int (a - b))):=rfl
theorem ix_t(l:List D)(i:Int):CV (.tup l) (.int i)=L2.fS l i:=rfl
theorem ix_l(l:List D)(i:Int):CV (.lst l) (.int i)=L2.fS l i:=rfl
theorem ix_f(l:List D)(i:Int):CV (.fix l) (.int i)=L2.fS l i:=rfl
theorem jm{α:Type}(l:List α)(i:Nat)(h:i<l.length):L2.fS l (i:Int)=some l[i]:=by unfold L2.fS L2.rL;simp[h]
theorem kW(l: ~~~0)(i:Nat)(h:i<l.length):L2.fS (l.map D.int) (i:Int)=!(.int l[i]):=by
 rw[jm _ _ (by simpa using h)]
 simp
theorem is_tup(l:List D):qx (Hu (.tup l)) "tuple"=true:=rfl
theorem Yh(i:Int):qx (Hu (.int i)) "int"=true:=rfl
theorem Mf(i:Int):qx (Hu (.int i)) "bool"=false:=rfl
theorem yd(m:Nat):bQ 0 m=((List.range m).map λ(k:Nat)=>(k:Int)).map .int:=by simp[bQ]
theorem ao(m:Nat)(h:m<=1000):m<=lim:=l4 h ⋯
theorem aI(i:Int)(h:0<=i/\i<=1000):QM i=true:=by unfold QM;simp only[eM];lia
section
theorem az(h:fx.np=1):aX rn fx k [.dat d] g1=(bA rn k fx [d]).map λr=>(r,g1):=mh (ds:=[d]) h.symm
theorem bu(h:fx.np=2):aX rn fx k [.dat d,.dat e] g1=(bA rn k fx [d,e]).map λr=>(r,g1):=mh (ds:=[d,e]) h.symm
theorem jo(h:fx.np=3):aX rn fx k [.dat d,.dat e,.dat f] g1=(bA rn k fx [d,e,f]).map λr=>(r,g1):=mh (ds:=[d,e,f]) h.symm
end
structure gI(fns:List Fx)(rn:Nat->Rn):Prop where
 e:∀(n:Nat) (bor:List Nat) (k:Nat) (x:Ex) (g:G),(rn (n+1)).e bor k x g=bL (rn n) bor k fns x g
 t:∀(n:Nat) (bor:List Nat) (k:Nat) (x:Ex) (g:G),(rn (n+1)).t bor k x g=stepT (rn n) bor k x g
 b:∀(n:Nat) (bor:List Nat) (k:Nat) (x:List Sm) (g:G),(rn (n+1)).b bor k x g=cP (rn n) bor k x g
 x:∀(n:Nat) (bor:List Nat) (k:Nat) (x:Ex) (g:G),(rn (n+1)).x bor k x g=La (rn n) bor k fns x g
 xt:∀(n:Nat) (bor:List Nat) (k:Nat) (x:Ex) (g:G),(rn (n+1)).xt bor k x g=zV (rn n) bor k x g
 xb:∀(n:Nat) (bor:List Nat) (k:Nat) (x:List Sm) (g:G),(rn (n+1)).xb bor k x g=zW (rn n) bor k x g
theorem RB(fns:List Fx):gI fns (run fns):=#[λ_ _ _ _ _=>rfl,λ_ _ _ _ _=>rfl,λ_ _ _ _ _=>rfl,λ_ _ _ _ _=>rfl,λ_ _ _ _ _=>rfl,λ_ _ _ _ _=>rfl]
abbrev evZ:=And.intro @is_tup (And.intro @Yh (And.intro @Mf (And.intro @L0 (And.intro @L1 (And.intro @GD (And.intro @GF (And.intro @Ai (And.intro @Aj (And.intro @vn (And.intro @Dh (And.intro @X6 (And.intro @L5 (And.intro @L7 (And.intro @X7 (And.intro @vo (And.intro @X8 (And.intro @L8 (And.intro @Ma (And.intro @Yb (And.intro @Yc (And.intro @Yd (And.intro @Ye (And.intro @Yg (And.intro @Ry (And.intro @Rz (And.intro @ix_t (And.intro @ix_l @ix_f)))))))))))))))))))))))))))
abbrev unfZ{fns rn}(U:gI fns rn):=And.intro U.e (And.intro U.t (And.intro U.b (And.intro U.x (And.intro U.xt U.xb))))
end Ev
set_option hygiene false in
local macro_rules | `(tactic|simp! [$u:term,$ls,*])=>`(tactic|simp[-List.map_map,-List.map_cons,-List.map_nil,Ev.unfZ $u,Ev.evZ,Ev.La,Ev.zV,Ev.Xd,Ev.zW,Ev.xArgs,Ev.isW,Ev.cP,Ev.aA,Ev.bL,Ev.stepT,Ev.argsR,Ev.qy,Ev.fT,Ev.toD,Ev.norm,Ev.pk,Ev.rO,Ev.fB,Ev.jM,Ev.X5,Ev.K8,Ev.orF,Ev.xN,Ev.K9,Ev.Xa,Ev.PX,$ls,*])
set_option hygiene false in
local macro_rules | `(~~~$x)=>`(Ev.D.tup (List.map Ev.D.int $x))
set_option hygiene false in
local macro_rules|`(∅)=>`((λx=>~~~x))
set_option hygiene false in
local macro_rules|`(~~~5)=>`(List (List Int))
local macro_rules|`(~~~0)=>`(List Int)
local macro_rules|`(~~~4)=>`([(.ret (.val (.bl false)))])
namespace Ev
noncomputable def aV:Fx:=#[2,4,[(.ite (.ix ⇑0 ↥1) [(.set 2 (.bin .Mod (.ix ⇑0 ↥0) ⇑1)),(.item 0 ↥0 (.bin .FloorDiv (.ix ⇑0 ↥0) ⇑1)),(.ret ⇑2)] []),(.item 0 ↥0 (.bin .Mod (.bin .Add (.bin .Mult (.ix ⇑0 ↥0) ↥48271) ↥29) ↥2147483647)),(.set 3 (.bin .Mod (.bin .Add (.bin .Add (.bin .Mult (.ix ⇑0 ↥0) (.ix ⇑0 ↥0)) (.bin .Mult ↥39373 (.ix ⇑0 ↥0))) ↥7) ↥2147483629)),(.set 3 (.bin .Mod (.bin .Add (.bin .Mult ⇑3 ⇑3) (.bin .Mult ↥16807 ⇑3)) ↥2147483587)),(.ret (.bin .Mod (.bin .FloorDiv ⇑3 ↥8) ⇑1))]]
noncomputable def nj:Fx:=#[2,2,[(.ite (.cmp .Lt ⇑1 (.blt .len [⇑0])) [(.ret (.ix ⇑0 ⇑1))] []),(.ret ↥0)]]
noncomputable def mj(ci:Nat):Fx:=#[2,3,[(.set 2 (.call ci [⇑0,⇑1])),(.ite (.cmp .GtE ⇑2 (.bin .Pow ↥10 ↥18)) [(.ret (.lst [(.bin .Sub ⇑2 (.bin .Pow ↥10 ↥18)),(.val (.bl true))]))] []),(.ret (.lst [(.bin .Mod ⇑2 ↥2147483647),(.val (.bl false))]))]]
def Tn(m:Nat)(t: ~~~0):Prop:=bO t=(List.range m).map λ(k:Nat)=>(k:Int)
theorem Tn.length(h:Tn m t):t.length=m:=by have:=(aZ t).length_eq;rw[h]at this;simpa using this.symm
theorem Tn.mem(h:Tn m t):x∈t ↔ 0<=x/\x<m:=by
 rw[<- (aZ t).mem_iff,h,eC];constructor
 . rintro⟨k,hk,rfl⟩;have:=lS.mp hk;lia
 . rintro⟨h1,h2⟩;exact#[x.toNat,lS.mpr ⋯,by lia]
theorem Tn.of(h:t.Perm ((List.range m).map λ(k:Nat)=>(k:Int))):Tn m t:=by refine (dN h.symm ?_).symm;rw[y3];exact List.pairwise_lt_range.imp λh=>by lia
theorem Tn.perm(h:Tn m t):t.Perm ((List.range m).map λ(k:Nat)=>(k:Int)):=by rw[<- h];exact (aZ t).symm
noncomputable def gt(t: ~~~0)(i:Int):Int:=t.getD i.toNat 0
theorem gB{t: ~~~0}{i:Int}(h:0<=i/\i<t.length):L2.fS (t.map D.int) i=!(.int (gt t i)):=by
 obtain⟨n,rfl⟩:∃n:Nat,i=n:=#[i.toNat,by lia]
 rw[kW t n ⋯];simp[gt,(by lia:n<t.length)]
noncomputable def nums(m:Nat): ~~~0:=(List.range m).map λ(k:Nat)=>(k:Int)
theorem jd:x∈nums m ↔ 0<=x/\x<m:=by
 unfold nums;rw[eC];constructor
 . rintro⟨k,hk,rfl⟩;have:=lS.mp hk;lia
 . rintro⟨h1,h2⟩;exact#[x.toNat,lS.mpr ⋯,by lia]
theorem qO(m:Nat):(nums m).length=m:=by simp[nums]
theorem Tn.jW{m:Nat}{t: ~~~0}(h:Tn m t){i:Int}(hi:0<=i/\i<m):0<=gt t i/\gt t i<m:=by
 refine h.mem.mp ?_;have hl:=h.length;have:i.toNat<t.length:=by lia
 unfold gt;rw[dE,eA this];exact oP _
theorem Tn.nodup(h:Tn m t):t.Nodup:=by refine (h.perm.nodup_iff).mpr ?_;rw[List.nodup_iff_pairwise_ne,y3];exact List.nodup_range.imp λh=>by lia
theorem Tn.inj{m:Nat}{t: ~~~0}(h:Tn m t){i j:Int}(hi:0<=i/\i<m)(hj:0<=j/\j<m)(e:gt t i=gt t j):i=j:=by
 have hl:=h.length;have h1:i.toNat<t.length:=by lia
 have h2:j.toNat<t.length:=by lia
 unfold gt at e;rw[dE,eA h1,dE,eA h2]at e;have:=(List.getElem_inj h.nodup).mp (show t[i.toNat]=t[j.toNat]from e)
 lia
theorem jq{α β:Type}{f:α->β}{l:List α}(h:l.Nodup)(hf:∀x∈l,∀y∈l,f x=f y->x=y):(l.map f).Nodup:=by
 induction l with
 |nil=>exact qS
 |cons a l ih=>
  obtain⟨h1,h2⟩:=gN.mp h;refine gN.mpr #[λhm=>?_,ih h2 λx hx y hy=>hf x (bP _ hx) y (bP _ hy)]
  obtain⟨b,hb,e⟩:=eC.mp hm;have:=hf b (bP _ hb) a b0 e;exact h1 (this▸hb)
theorem RC(m:Nat):Tn m (nums m):=Tn.of (t0 _)
theorem mz(h:b.length=m):(nums m).map (gt b)=b:=by
 subst h;refine AT (by simp[nums]) λi h1 h2=>?_
 simp[nums,gt,h2]
theorem au{rn:Rn}{bor:List Nat}{k:Nat}{st:Sm}{aD:List Sm}{g g1:G}(h:aA rn bor k st g=!(.nx,g1)):cP rn bor k (st::aD) g=cP rn bor k aD g1:=by
 conv=>lhs;unfold cP
 rw[h]
abbrev St(s:Int)(fl:Bool):Slot:=.own [.int s,.bl fl]
theorem ou(a b:Int)(h:0<b):nO .Mod (.int a) (.int b)=!(.dat (.int (a % b))):=by simp[nO,lV,h]
theorem Di(a b:Int)(h:0<b/\b<18446744073709551616):nO .FloorDiv (.int a) (.int b)=!(.dat (.int (a / b))):=by simp[nO,lV,h]
theorem RD(a b:Int)(h:0<b/\b<1073741824):nO .FloorDiv (.int a) (.int b)=!(.dat (.int (a / b))):=Di a b ⋯
theorem jr(a b:Int)(h:(-(2 ^ 64)<a/\a<2 ^ 64)\/(-(2 ^ 64)<b/\b<2 ^ 64)):nO .Mult (.int a) (.int b)=!(.dat (.int (a * b))):=by
 have:K5 a b=true:=by unfold K5;simp only[wT,eM,l9];exact h
 simp[nO,K7,this]
section
variable{ti mi:Nat}(U:gI fns rn)(hT:fns[ti]?=!aV)
include U
theorem Yi(s:Int)(fl:Bool)(m:Int)(hm:0<m/\m<18446744073709551616):∃r s' s2 s3,0<=r/\r<m/\(rn (n+20)).b [0] k aV.body [St s fl,‹m›,.no,.no]=!(.rt ‹r›,[St s' fl,‹m›,s2,s3]):=by
 have i0:L2.fS [D.int s,D.bl fl] 0=!(.int s):=rfl;have i1:L2.fS [D.int s,D.bl fl] 1=!(.bl fl):=rfl;have x0':L2.rL 2 0=!0:=rfl;cases fl with
 |true=>refine#[s % m,s / m,.dat (.int (s % m)),.no,Int.emod_nonneg _ ⋯,Int.emod_lt_of_pos _ hm.1,?_];unfold aV;simp! [U,i0,i1,x0',ou _ _ hm.1,Di _ _ hm]
 |false=>generalize hs1:(s * 48271+29) % 2147483647=s1;have j0:L2.fS [D.int s1,D.bl false] 0=!(.int s1):=rfl;generalize hs2:(s1 * s1+39373 * s1+7) % 2147483629=s2;generalize hs3:(s2 * s2+16807 * s2) % 2147483587=s3;refine#[s3 / 8 % m,s1,.no,‹s3›,Int.emod_nonneg _ ⋯,Int.emod_lt_of_pos _ hm.1,?_];unfold aV;simp! [U,i0,i1,x0',ou,jr s 48271 (.inr ⋯),hs1,j0,jr s1 s1 (.inl ⋯),jr 39373 s1 (.inl ⋯),hs2,jr s2 s2 (.inl ⋯),jr 16807 s2 (.inl ⋯),hs3,RD _ _ (show (0:Int)<8/\(8:Int)<1073741824 by decide),hm.1]
theorem Mg{i:Nat}{s:Int}{fl:Bool}{m:Int}(hi:g[i]?=!(St s fl))(hm:0<m/\m<18446744073709551616):∃r s',0<=r/\r<m/\aX (rn (n+20)) aV k [.var i,‹m›] g=!(‹r›,g.set i (St s' fl)):=by obtain⟨r,s',s2,s3,h1,h2,h⟩:=Yi U s fl m hm;refine#[r,s',h1,h2,?_];have hp:fB aV.n [St s fl,‹m›]=[St s fl,‹m›,.no,.no]:=rfl;unfold aX;simp only[vars,dF,hi,List.map_cons,List.map_nil];rw[hp,h];rfl
theorem bE{i:Nat}{s:Int}{fl:Bool}{m:Int}(hi:g[i]?=!(St s fl))(hm:0<m/\m<1000):∃r s',0<=r/\r<m/\aX (rn (n+20)) aV k [.var i,‹m›] g=!(‹r›,g.set i (St s' fl)):=Mg U hi ⋯
omit U in
theorem Mh(a: ~~~0):cY .NotEq (.lst (a.map .int)) (.lst [])=!((not (decide (a=[])))):=L8 a []
omit U in
theorem jX(h:i<l):L2.rL l (i:Int)=!i:=by unfold L2.rL;rw[eR ⋯,eR ⋯];simp
omit U in
theorem tR:∀(l: ~~~0) (j:Nat),(l.map D.int).eraseIdx j=(l.eraseIdx j).map .int
 | [],_=>rfl
 |_::_,0=>rfl
 |a::l,j+1=>by simp[tR l j]
omit U in
theorem yf:∀(l: ~~~0) (j:Nat) (h:j<l.length),([l[j]]++l.eraseIdx j).Perm l
 |a::l,0,_=>t0 _
 |a::l,j+1,h=>(List.Perm.swap a _ _).trans ((yf l j (by simpa using h)).cons a)
end
section
variable{ci:Nat}(U:gI fns rn)(hC:fns[ci]?=!nj)
include U hC
omit U hC in
theorem uz:nO .Pow (.int 10) (.int 18)=!(.dat (.int (10 ^ 18))):=by rfl
theorem Mi(ns: ~~~0)(hl:ns.length<=1000)(j:Nat):∃(s:Int) (fl:Bool),bA (rn (n+40)) (k+1) (mj ci) [.fix (ns.map .int),.int j]=!(.new [.int s,.bl fl]):=by
 obtain⟨v,q⟩:∃v:Int,∀n,bA (rn (n+20)) k nj [.fix (ns.map .int),.int j]=!‹v›:=by
  by_cases h:j<ns.length
  .
   refine#[ns[j],λn=>?_]
   have h':(j:Int)<ns.length:=by lia
   have:=kW ns j h;unfold bA nj;simp! [U,qM,h',this]
  .
   refine#[0,λn=>?_]
   have h' : ¬ (j:Int)<ns.length:=by lia
   unfold bA nj;simp! [U,qM,h']
 by_cases hv:(1000000000000000000:Int)<=v
 . refine#[v - 1000000000000000000,true,?_];unfold bA mj;simp! [U,hC,bu (fx:=nj) rfl,q,uz,hv,ao 2 ⋯]
 . refine#[v % 2147483647,false,?_];unfold bA mj;simp! [U,hC,bu (fx:=nj) rfl,q,uz,hv,ao 2 ⋯,ou]
end
noncomputable def bD:Fx:=#[1,1,[(.ret (.and [(.K4 ⇑0 "int"),(.not (.K4 ⇑0 "bool"))]))]]
noncomputable def aO(w:Nat):Fx:=#[3,3,[(.ret (.and [(.call w [⇑0]),(.chain ⇑1 [.LtE,.LtE] [⇑0,⇑2])]))]]
def isInt:D->Bool
 |.int _=>true
 |_=>false
noncomputable def Ak(lo hi:Int):D->Bool
 |.int i=>decide (lo<=i/\i<=hi)
 |_=>false
theorem tT:∀{l:List D},l.all isInt=true->∃t:List Int,l=t.map .int
 | [],_=>#[[],rfl]
 |d::l,h=>by
  rw[List.all_cons,eM]at h;obtain⟨t,rfl⟩:=tT h.2;cases d with
  |int i=>exact#[i::t,rfl]
  |_=>cases h.1
theorem qP:∀{l:List D},(∀x∈l,gH x=true)->cO l=true
 | [],_=>rfl
 |d::l,h=>by
  show (gH d&&cO l)=true;rw[h d b0,qP λx hx=>h x (bP _ hx)]
  rfl
theorem qQ:∀{l:List D},(∀x∈l,dep x<=c)->deps l<=c
 | [],_=>o4 _
 |d::l,h=>by
  have h1:=h d b0;have h2:=qQ λx hx=>h x (bP _ hx)
  show max (dep d) (deps l)<=c;lia
theorem Yj(h:∀x∈l,gH x=true/\dep x<=5):cY .NotEq (.lst l) (.lst [])=!((not l.isEmpty)):=by
 have h1:=qP λx hx=>(h x hx).1
 have h2:=qQ λx hx=>(h x hx).2
 have h3:dep (.lst l)<=190:=by show deps l+1<=190;lia
 have:lW (.lst l) (.lst [])=true:=by simp only[lW,gH,h1,cO,Bool.true_and,l9];exact h3
 simp only[cY,this];cases l <;> rfl
theorem RJ{l:List D}{lo hi r:Int}(h:0<=r/\r<l.length)(a:l.all (Ak lo hi)=true):∃v:Int,(lo<=v/\v<=hi)/\L2.fS l r=!(.int v):=by
 obtain⟨j,rfl⟩:∃j:Nat,r=j:=#[r.toNat,by lia]
 have hj:j<l.length:=by lia
 have b:=hZ.mp a _ (oP hj);have q:=jm l j hj;generalize l[j]=x at b q;cases x with
 |int v=>exact#[v,i4 b,q]
 |_=>cases b
section
variable{w wi mw it ci cj:Nat}(U:gI fns rn)
include U
theorem kX(d:D):bA (rn (n+6)) k bD [d]=!(.dat (.bl (isInt d))):=by
 have e:isInt d=(qx (Hu d) "int" && (not (qx (Hu d) "bool"))):=by cases d <;> rfl
 rw[e];unfold bA bD;cases h:qx (Hu d) "int" <;> simp! [U,h]
variable(hW:fns[w]?=!bD)
include hW
theorem jt(d:D)(lo hi:Int):bA (rn (n+14)) (k+1) (aO w) [d,.int lo,.int hi]=!(.dat (.bl (Ak lo hi d))):=by
 have no (e:isInt d=false):bA (rn (n+14)) (k+1) (aO w) [d,.int lo,.int hi]=!(.dat (.bl false)):=by unfold bA aO;simp! [U,hW,az (fx:=bD) rfl,kX U,e]
 unfold bA aO;cases d with
 |int i=>
  by_cases h1:lo<=i
  .
   by_cases h2:i<=hi
   . simp! [U,hW,az (fx:=bD) rfl,kX U,isInt,Ak,h1]
   . simp! [U,hW,az (fx:=bD) rfl,kX U,isInt,Ak,h1]
  . simp! [U,hW,az (fx:=bD) rfl,kX U,isInt,Ak,h1]
 |_=>exact no rfl
end
noncomputable def fJ(wi:Nat):Fx:=#[2,2,[(.ite (.or [(.not (.K4 ⇑1 "tuple")),(.cmp .NotEq (.blt .len [⇑1]) ↥2)]) (~~~4) []),(.ret (.and [(.blt .all [(.comp 2 2 (.nm 3) ⇑1 none (.call wi [⇑3,↥0,(.bin .Sub ⇑0 ↥1)]))]),(.cmp .Lt (.ix ⇑1 ↥0) (.ix ⇑1 ↥1))]))]]
noncomputable def qR:Fx:=#[1,1,[(.ret (.blt .all [(.comp 1 2 (.nm 2) (.eO ↥1 (.blt .len [⇑0])) none (.cmp .Lt (.ix ⇑0 (.bin .Sub ⇑2 ↥1)) (.ix ⇑0 ⇑2)))]))]]
noncomputable def eo(wi it ri:Nat):Fx:=#[1,3,[(.ite (.or [(.not (.K4 ⇑0 "tuple")),(.cmp .NotEq (.blt .len [⇑0]) ↥2)]) (~~~4) []),(.tgt (.tp [1,2]) ⇑0),(.ite (.or [(.not (.call wi [⇑1,↥1,↥6])),(.not (.K4 ⇑2 "tuple"))]) (~~~4) []),(.ret (.and [(.blt .all [(.comp 3 2 (.nm 4) ⇑2 none (.call it [⇑1,⇑4]))]),(.call ri [⇑2])]))]]
noncomputable def bT(iw ci:Nat):Fx:=#[1,1,[(.ite (.not (.call iw [⇑0])) [.stuck] [])]]
noncomputable def W(m:Nat)(aj: ~~~5):D:=.tup [.int m,.tup (aj.map ∅)]
structure Wb(m:Nat)(aj: ~~~5):Prop where
 tie:∀x∈aj,∃a b:Int,x=[a,b]/\0<=a/\a<b/\b<m
 sZ:aj.Pairwise λx y=>HT.lexLt x y=true
 len:aj.length<=15
theorem Wb.two{m:Nat}{aj: ~~~5}(h:Wb m aj):(aj.map ∅)=aj.map λx=>.tup [.int (gt x 0),.int (gt x 1)]:=i7 λx hx=>by
 obtain⟨a,b,rfl,_⟩:=h.tie x hx;rfl
theorem tU(l: ~~~5):cO (l.map ∅)=true:=by
 induction l with
 |nil=>rfl
 |cons x l ih=>simp[cO,gH,gZ,ih]
theorem tV(l: ~~~5):deps (l.map ∅)<=1:=by
 induction l with
 |nil=>simp[deps]
 |cons x l ih=>simp[deps,dep,g7];lia
theorem tW:∀a b:List (~~~0),bY (a.map ∅) (b.map ∅)=decide (a=b)
 | [],[]=>rfl
 | [],_::_=>rfl
 |_::_,[]=>rfl
 |x::a,y::b=>by
  simp only[List.map_cons,bY,cS,eY,tW a b,A3,CI]
theorem Yk(m m':Nat)(a b: ~~~5):lW (W m a) (W m' b)=true:=by have:=tV a;simp[lW,W,gH,cO,tU,dep,deps];lia
theorem T9(m:Nat)(a b: ~~~5):cS (W m a) (W m b)=decide (a=b):=by simp[W,cS,bY,tW]
theorem Yl(m:Nat)(a b: ~~~5):cY .NotEq (W m a) (W m b)=!((not (decide (a=b)))):=by
 show (if lW (W m a) (W m b)=true then some ((not (cS (W m a) (W m b))))else none)=_
 rw[eR (Yk _ _ _ _),T9]
section
variable{wh wi it ri iw ci:Nat}(U:gI fns rn)
include U
variable(hW:fns[wh]?=!bD)(hI:fns[wi]?=!(aO wh))
include hW hI
theorem Mj(m:Nat)(a b:Int)(h:0<=a/\a<b/\b<m):bA (rn (n+40)) (k+3) (fJ wi) [.int m,~~~[a,b]]=!(.dat (.bl true)):=by
 have w:=λn k=>kU (rn:=rn (n+24)) (bor:=[]) (k:=k+2) (g:=[‹m›,.dat (~~~[a,b])]) (g1:=[‹m›,.dat (~~~[a,b])]) (kk:=2) (nn:=2) (j:=3) (it:=.slot 1) (e:=.call wi [⇑3,↥0,(.bin .Sub ⇑0 ↥1)]) [a,b] .int (λ_=>.bl true) (by simp! [U,cN]) rfl ⋯ ⋯ ⋯ (ao _ ⋯) λx hx G' hG=>by
  have h0:=hG.1 0 ⋯;have hx':(0:Int)<=x/\x<=m - 1:=by simp only[eJ,nV]at hx;lia
  simp! [U,hG.2,h0,hI,jo (fx:=aO wh) rfl,jt U hW,Ak,hx']
 have e1:[a,b].map (λ_=>D.bl true)=([true,true]).map .bl:=rfl
 have i0:L2.fS ([a,b].map D.int) 0=!(.int a):=rfl;have i1:L2.fS ([a,b].map D.int) 1=!(.int b):=rfl;unfold bA fJ;simp! [U,w,e1,i0,i1,h]
omit hW hI in
theorem Ym(m:Nat)(aj: ~~~5)(h:Wb m aj):bA (rn (n+40)) k qR [.tup (aj.map ∅)]=!(.dat (.bl true)):=by
 have hl:=h.len;have w:=λn k=>kU (rn:=rn (n+16)) (bor:=[]) (k:=k) (g:=[.dat (.tup (aj.map ∅))]) (g1:=[.dat (.tup (aj.map ∅))]) (kk:=2) (nn:=1) (j:=2) (it:=.eO ↥1 (.blt .len [⇑0])) (e:=.cmp .Lt (.ix ⇑0 (.bin .Sub ⇑2 ↥1)) (.ix ⇑0 ⇑2)) (List.range (aj.length - 1)) (λ(k:Nat)=>.int (1+k:Int)) (λ_=>.bl true) (by
   have e:((aj.length:Int) - 1).toNat=aj.length - 1:=by lia
   simp! [U,cN,aI 1 ⋯,aI (aj.length:Int) ⋯,e,bQ]) rfl ⋯ ⋯ ⋯ (ao _ (by simp;lia)) λj hj G' hG=>by
  have h0:G'[0]?=!(.dat (.tup (aj.map ∅))):=hG.1 0 ⋯
  have hj':=lS.mp hj;have j1:L2.fS (aj.map ∅) (1+(j:Int) - 1)=!(~~~(aj[j]'⋯)):=by rw[show (1+(j:Int) - 1)=((j:Nat):Int)by lia,jm _ _ (by simp;lia)];simp
  have j2:L2.fS (aj.map ∅) (1+(j:Int))=!(~~~(aj[j+1]'⋯)):=by rw[show (1+(j:Int))=((j+1:Nat):Int)by lia,jm _ _ (by simp;lia)];simp
  have hlt:HT.lexLt (aj[j]'⋯) (aj[j+1]'⋯)=true:=AF.mp h.sZ j (j+1) ⋯ ⋯ ⋯;have hc:cY .Lt (~~~(aj[j]'⋯)) (~~~(aj[j+1]'⋯))=!true:=by simp only[cY,ltF,ints_map,hlt]
  simp! [U,hG.2,h0,j1,j2,hc]
 have e1:(List.range (aj.length - 1)).map (λ_=>D.bl true)=((List.range (aj.length - 1)).map λ_=>true).map .bl:=by rw[List.map_map];rfl
 have e2:((List.range (aj.length - 1)).map λ_=>true).all id=true:=by simp
 unfold bA qR;simp! [U,w,e1,e2]
variable(rG:fns[it]?=!(fJ wi))(hR:fns[ri]?=!qR)
include rG hR
theorem yg(m:Nat)(aj: ~~~5)(hm:1<=m/\m<=6)(h:Wb m aj):bA (rn (n+60)) (k+5) (eo wi it ri) [W m aj]=!(.dat (.bl true)):=by
 have hl:=h.len;have w:=λn k=>kU (rn:=rn (n+50)) (bor:=[]) (k:=k+4) (g:=[.dat (W m aj),‹m›,.dat (.tup (aj.map ∅))]) (g1:=[.dat (W m aj),‹m›,.dat (.tup (aj.map ∅))]) (kk:=2) (nn:=3) (j:=4) (it:=.slot 2) (e:=.call it [⇑1,⇑4]) aj ∅ (λ_=>.bl true) (by simp! [U,cN]) rfl ⋯ ⋯ ⋯ (ao _ ⋯) λx hx G' hG=>by
  have h1:=hG.1 1 ⋯;obtain⟨a,b,rfl,hab⟩:=h.tie x hx;simp! [U,hG.2,h1,rG,bu (fx:=fJ wi) rfl,Mj U hW hI m a b hab]
 have e1:aj.map (λ_=>D.bl true)=(aj.map λ_=>true).map .bl:=by rw[List.map_map];rfl
 have e2:(aj.map λ_=>true).all id=true:=by simp
 have q:=λn k=>Ym U (n:=n) (k:=k) m aj h
 have ty:qx (Hu (W m aj)) "tuple"=true:=rfl;have bl:jH .len [W m aj]=!‹2›:=rfl;have st:∀s1 s2,Tg.set (.tp [1,2]) (W m aj) [.dat (W m aj),s1,s2]=![.dat (W m aj),‹m›,.dat (.tup (aj.map ∅))]:=λ_ _=>rfl
 unfold bA eo;simp! [U,ty,bl,st,hI,jo (fx:=aO wh) rfl,jt U hW,Ak,(show (1:Int)<=m/\(m:Int)<=6 by lia),w,e1,e2,hR,az (fx:=qR) rfl,q]
variable(Am:fns[iw]?=!(eo wi it ri))
include Am
theorem jY(m:Nat)(aj: ~~~5)(hm:1<=m/\m<=6)(h:Wb m aj):bA (rn (n+70)) (k+6) (bT iw ci) [W m aj]=!(.dat .non):=by unfold bA bT;simp! [U,Am,az (fx:=eo wi it ri) rfl,yg U hW hI rG hR m aj hm h]
end
def tm(t: ~~~0)(x: ~~~0): ~~~0:=if gt t (gt x 0)<gt t (gt x 1)then [gt t (gt x 0),gt t (gt x 1)]else [gt t (gt x 1),gt t (gt x 0)]
def tw(t: ~~~0)(aj: ~~~5): ~~~5:=aN dD (aj.map (tm t))
theorem eT(a b:Int):gt [a,b] 0=a/\gt [a,b] 1=b:=#[rfl,rfl]
theorem dj(t: ~~~0)(a b:Int):tm t [a,b]=if gt t a<gt t b then [gt t a,gt t b]else [gt t b,gt t a]:=rfl
def Pr(m:Nat)(x: ~~~0):Prop:=∃a b:Int,x=[a,b]/\0<=a/\a<b/\b<m
theorem Dj(h:Tn m t)(hx:Pr m x):Pr m (tm t x):=by
 obtain⟨a,b,rfl,h1,h2,h3⟩:=hx;have ha:=h.jW (i:=a) ⋯;have hb:=h.jW (i:=b) ⋯;have iN:gt t a≠gt t b:=λe=>by have:=h.inj ⋯ ⋯ e;lia
 rw[dj];split
 . exact#[_,_,rfl,by lia,by lia,by lia]
 . exact#[_,_,rfl,by lia,by lia,by lia]
theorem Ao(h:Tn m t)(hx:Pr m x)(hy:Pr m y)(e:tm t x=tm t y):x=y:=by
 obtain⟨a,b,rfl,h1,h2,h3⟩:=hx;obtain⟨c,d,rfl,h4,h5,h6⟩:=hy;rw[dj,dj]at e;have i1:∀i j:Int,(0<=i/\i<m)->(0<=j/\j<m)->gt t i=gt t j->i=j:=λi j hi hj e=>h.inj hi hj e
 split at e <;> split at e <;> simp only[A3,and_true]at e
 .
  have:=i1 a c ⋯ ⋯ e.1;have:=i1 b d ⋯ ⋯ e.2
  subst_vars;rfl
 . have:=i1 a d ⋯ ⋯ e.1;have:=i1 b c ⋯ ⋯ e.2;lia
 . have:=i1 b c ⋯ ⋯ e.1;have:=i1 a d ⋯ ⋯ e.2;lia
 .
  have:=i1 b d ⋯ ⋯ e.1;have:=i1 a c ⋯ ⋯ e.2
  subst_vars;rfl
theorem Yn(ht:Tn m t)(hu:Tn m u)(hx:Pr m x):tm u (tm t x)=tm (t.map (gt u)) x:=by
 obtain⟨a,b,rfl,h1,h2,h3⟩:=hx;have hl:=ht.length;have e:∀i:Int,(0<=i/\i<m)->gt (t.map (gt u)) i=gt u (gt t i):=λi hi=>by
  have h1:i.toNat<t.length:=by lia
  unfold gt;simp[h1]
 rw[dj t,dj,e a ⋯,e b ⋯];have ha:=ht.jW (i:=a) ⋯;have hb:=ht.jW (i:=b) ⋯;have iN:gt t a≠gt t b:=λq=>by have:=ht.inj ⋯ ⋯ q;lia
 have hne2:gt u (gt t a)≠gt u (gt t b):=λq=>iN (hu.inj ha hb q)
 split
 . rw[dj]
 . rw[dj];split <;> split <;> first |rfl |lia
theorem dU(h:l.Nodup):(aN dD l).Pairwise λx y=>HT.lexLt x y=true:=by
 have h1:=dg (O:=dD) l;have h2:(aN dD l).Nodup:=(aQ l).nodup_iff.mpr h;refine (h1.and h2).imp λ{x y} #[q1,q2]=>?_
 cases e:HT.lexLt x y with
 |true=>rfl
 |false=>exact absurd (lN x y e q1) q2
theorem Wb.nodup(h:Wb m aj):aj.Nodup:=by exact h.sZ.imp λ{x y} q e=>by rw[e,lM]at q;cases q
theorem Wb.turn(h:Wb m aj)(ht:Tn m t):Wb m (tw t aj):=by
 have hp:=aQ (O:=dD) (aj.map (tm t));refine#[λx hx=>?_,dU (jq h.nodup λx hx y hy e=>Ao ht (h.tie x hx) (h.tie y hy) e),?_]
 . obtain⟨y,hy,rfl⟩:=eC.mp (hp.mem_iff.mp hx);exact Dj ht (h.tie y hy)
 . unfold tw;rw[hp.length_eq,d6];exact h.len
theorem Aq(h:l.Perm l'):aN dD l=aN dD l':=dP ((aQ l).trans h) (dg l)
theorem yh(h:Wb m aj)(ht:Tn m t)(hu:Tn m u):tw u (tw t aj)=tw (t.map (gt u)) aj:=by
 unfold tw;rw[Aq ((aQ (aj.map (tm t))).map (tm u)),List.map_map]
 congr 1
 exact i7 λx hx=>Yn ht hu (h.tie x hx)
theorem tw_id(h:Wb m aj)(ht:∀i:Int,0<=i/\i<m->gt t i=i):tw t aj=aj:=by
 unfold tw;have e:aj.map (tm t)=aj:=by
  conv=>rhs;rw[<- List.map_id aj]
  refine i7 λx hx=>?_
  obtain⟨a,b,rfl,h1,h2,h3⟩:=h.tie x hx;rw[dj,ht a ⋯,ht b ⋯,eR h2];rfl
 rw[e];refine (dP (t0 _) (h.sZ.imp λ{x y} q=>?_)).symm
 exact iu.le_of_lt q
noncomputable def yi(m a:Nat): ~~~5:=(List.range (m - (a+1))).map λ(j:Nat)=>[(a:Int),(a:Int)+1+(j:Int)]
def pacc(m j:Nat): ~~~5:=((List.range j).map (yi m)).flatten
theorem tX(m j:Nat):pacc m (j+1)=pacc m j++yi m j:=by simp[pacc,List.range_succ]
theorem yj(m:Nat):∀j,(pacc m j).length<=j * m
 | 0=>by simp[pacc]
 |j+1=>by
  rw[tX,fA];have:=yj m j;have h2:(yi m j).length<=m:=by simp[yi]
  lia
def prs(m:Nat): ~~~5:=pacc m m
def okP(m:Nat):Bool:=(prs m).all (λx=>match x with | [a,b]=>decide (0<=a)&&decide (a<b)&&decide (b<m) |_=>false)&&decide ((prs m).Nodup)&&decide ((prs m).length<=15)
theorem RK{m:Nat}(hm:1<=m/\m<=6):okP m=true:=by apply six hm <;> decide +kernel
theorem jZ(hm:1<=m/\m<=6):(∀x∈prs m,Pr m x)/\(prs m).Nodup/\(prs m).length<=15:=by
 have:=RK hm;unfold okP at this;simp only[eM,l9,hZ]at this;obtain⟨⟨h1,h2⟩,h3⟩:=this;refine#[λx hx=>?_,h2,h3]
 have:=h1 x hx;split at this
 . rename_i a b;simp only[eM,l9]at this;exact#[a,b,rfl,this.1.1,this.1.2,this.2]
 . cases this
section
variable{bor:List Nat}{k n:Nat}{g g1:G}{rn:Nat->Rn}{fns:List Fx}{ti pi mi:Nat}(U:gI fns rn)(hT:fns[ti]?=!aV)
include U
noncomputable def fr(s:Int)(fl:Bool)(a2 a3 a4 a5 a6 a7:Slot):G:=[St s fl,‹6›,a2,a3,a4,a5,a6,a7]
end
theorem RL(a b:Int):jH .sorted [.lst [.int a,.int b]]=!(.new ((bO [a,b]).map .int)):=yc [a,b] ⋯
theorem RM{l:List D}{r:Int}(h:0<=r/\r<l.length):∃x∈l,L2.fS l r=!x:=by
 obtain⟨j,rfl⟩:∃j:Nat,r=j:=#[r.toNat,by lia]
 have hj:j<l.length:=by lia
 exact#[l[j],oP hj,jm l j hj]
theorem RN(l m:List D)(h:l.length+m.length<=1000):nO .Add (.tup l) (.tup m)=!(.dat (.tup (l++m))):=by
 show (if l.length+m.length<=lim then _ else _)=_
 rw[eR (ao _ h)]
def eu:Fx:=#[2,5,[(.set 2 (.lst [])),(.loop (.tp [3,4]) (.ix ⇑0 ↥1) [(.expr (.append 2 (.tup [(.blt .min [(.ix ⇑1 ⇑3),(.ix ⇑1 ⇑4)]),(.blt .max [(.ix ⇑1 ⇑3),(.ix ⇑1 ⇑4)])])))]),(.ret (.tup [(.ix ⇑0 ↥0),(.blt .tuple [(.blt .sorted [⇑2])])]))]]
def jI(ti:Nat):Fx:=#[2,4,[(.set 2 (.xM ⇑1)),(.set 3 (.lst [])),(.while (.cmp .NotEq ⇑2 (.lst [])) [(.expr (.append 3 (.tK 2 (.call ti [⇑0,(.blt .len [⇑2])]))))]),(.ret (.blt .tuple [⇑3]))]]
def ym(ti:Nat):List Sm:=[(.expr (.append 3 (.tup [(.ix (.lst [(.call ti [⇑0,⇑4]),(.bin .Sub ⇑4 ↥1),↥0,(.blt .max [↥0,(.bin .Sub ⇑4 ↥2)])]) ⇑2),⇑4])))]
def iG(ti na mi:Nat):Fx:=#[2,5,[(.set 2 (.call ti [⇑0,↥4])),(.set 3 (.lst [])),(.loop (.nm 4) (.eO ↥1 ⇑1) (ym ti)),(.ret (.call na [(.tup [⇑1,(.blt .tuple [⇑3])]),(.call mi [⇑0,⇑1])]))]]
theorem mm_tm{m:Nat}{t: ~~~0}(ht:Tn m t){a b:Int}(h:0<=a/\a<b/\b<m):[if gt t b<gt t a then gt t b else gt t a,if gt t b > gt t a then gt t b else gt t a]=tm t [a,b]:=by
 have iN:gt t a≠gt t b:=λe=>by have:=ht.inj ⋯ ⋯ e;lia
 rw[dj];by_cases q:gt t a<gt t b
 . rw[eP ⋯,eR ⋯,eR q]
 . rw[eR ⋯,eP ⋯,eP q]
def Mk(j:Nat)(l: ~~~5):Prop:=l.length=j/\∀i,i<j->∃v:Int,l[i]?=![v,((i+1:Nat):Int)]/\0<=v/\v<=i
theorem Mk.more{j:Nat}{l: ~~~5}(h:Mk j l){v z:Int}(hz:z=1+(j:Int))(hv:0<=v/\v<z):Mk (j+1) (l++[[v,z]]):=by
 refine#[by rw[fA,h.1];rfl,λi hi=>?_]
 rcases u4 i j with q |q
 . obtain⟨u,e,hu⟩:=h.2 i q;exact#[u,by rw[dL (by rw[h.1];exact q)];exact e,hu]
 .
  obtain rfl:i=j:=by lia
  refine#[v,?_,by lia,by lia]
  rw[eI (by rw[h.1];exact eD _),h.1,B6,hz]
  show some [v,1+(i:Int)]=_;rw[show (1:Int)+(i:Int)=((i+1:Nat):Int)by lia]
theorem Mk.at{j:Nat}{l: ~~~5}(h:Mk j l){x: ~~~0}(hx:x∈l):∃(i:Nat) (v:Int),i<j/\l[i]?=!x/\x=[v,((i+1:Nat):Int)]/\0<=v/\v<=i:=by
 obtain⟨i,hi,e⟩:=List.mem_iff_getElem.mp hx;have hi':i<j:=by rw[<- h.1];exact hi
 obtain⟨v,e2,hv⟩:=h.2 i hi';rw[eA hi,e]at e2;exact#[i,v,hi',by rw[eA hi,e],l5 e2,hv]
theorem Mk.pr{j m:Nat}{l: ~~~5}(h:Mk j l)(hm:j<m):∀x∈l,Pr m x:=λx hx=>by
 obtain⟨i,v,hi,_,e,hv⟩:=h.at hx;exact#[v,_,e,by lia,by lia,by lia]
theorem Mk.nodup{j:Nat}{l: ~~~5}(h:Mk j l):l.Nodup:=by
 refine AF.mpr λa b ha hb hab e=>?_
 obtain⟨v,e1,_⟩:=h.2 a (by rw[<- h.1];exact ha)
 obtain⟨w,e2,_⟩:=h.2 b (by rw[<- h.1];exact hb)
 rw[eA ha]at e1;rw[eA hb,<- e,l5 e1]at e2;have:=l5 e2;injection this with _ q;lia
section
variable{bor:List Nat}{k n:Nat}{g g1:G}{rn:Nat->Rn}{fns:List Fx}{ti na mi:Nat}(U:gI fns rn)
include U
theorem qT(m:Nat)(hm:m<=60)(l: ~~~5)(hl:∀x∈l,Pr m x)(hn:l.length<=60)(t: ~~~0)(ht:Tn m t):bA (rn (n+20)) k eu [.tup [.int m,.tup (l.map ∅)],~~~t]=!(.dat (W m (aN dD (l.map (tm t))))):=by
 have tl:=ht.length;obtain⟨g',⟨dn,a3,a4,h1,rfl⟩,h3⟩:=bM (T:=.tp [3,4]) (b:=(rn (n+19)).b [] k [(.expr (.append 2 (.tup [(.blt .min [(.ix ⇑1 ⇑3),(.ix ⇑1 ⇑4)]),(.blt .max [(.ix ⇑1 ⇑3),(.ix ⇑1 ⇑4)])])))]) (λx:List Int=>~~~x)
  (I:=λaD g=>∃(dn: ~~~5) (a3 a4:Slot),l=dn++aD/\g=[.dat (.tup [.int m,.tup (l.map ∅)]),.dat (~~~t),.own ((dn.map (tm t)).map ∅),a3,a4])
  (step:=λx aD g h=>by
   obtain⟨dn,a3,a4,h1,rfl⟩:=h;obtain⟨a,b,rfl,hab⟩:=hl x (by rw[h1];simp)
   have i1:L2.fS (t.map D.int) a=!(.int (gt t a)):=gB ⋯;have i2:L2.fS (t.map D.int) b=!(.int (gt t b)):=gB ⋯;have hdl:=hU (oI _) (ao (dn.length+1) (by rw[h1,fA]at hn;lia))
   refine#[[.dat (.tup [.int m,.tup (l.map ∅)]),.dat (~~~t),.own ((dn.map (tm t)).map ∅),‹a›,‹b›],[.dat (.tup [.int m,.tup (l.map ∅)]),.dat (~~~t),.own (((dn++[[a,b]]).map (tm t)).map ∅),‹a›,‹b›],rfl,?_,dn++[[a,b]],_,_,by rw[h1,rV];rfl,rfl]
   rw[pV,List.map_singleton,<- mm_tm ht hab];simp! [U,i1,i2,hdl,ao 2 ⋯];rfl) l [.dat (.tup [.int m,.tup (l.map ∅)]),.dat (~~~t),.own [],.no,.no] #[[],.no,.no,rfl,rfl]
 rw[n0]at h1;subst h1;have bs:=fH (l.map (tm t)) (λx hx e=>by
  obtain⟨y,hy,rfl⟩:=eC.mp hx;obtain⟨a,b,e',_⟩:=Dj ht (hl y hy);rw[e']at e;cases e) (by rw[d6];lia)
 have i0:L2.fS [D.int (m:Int),.tup (l.map ∅)] 0=!(.int m):=rfl
 have i1:L2.fS [D.int (m:Int),.tup (l.map ∅)] 1=!(.tup (l.map ∅)):=rfl
 unfold bA eu;simp! [U,cN,i0,i1,h3,bs];rfl
variable(hT:fns[ti]?=!aV)
include hT
theorem vp{i:Nat}{s:Int}{fl:Bool}(m:Nat)(hi:g[i]?=!(St s fl))(hm:m<=60):∃(row: ~~~0) (s':Int),Tn m row/\aX (rn (n+50)) (jI ti) (k+1) [.var i,‹m›] g=!(.dat (~~~row),g.set i (St s' fl)):=by
 have hlm:=qO m;have loop:=Dg (c:=(rn (n+49)).t [0] (k+1) (.cmp .NotEq ⇑2 (.lst []))) (b:=(rn (n+49)).b [0] (k+1) [(.expr (.append 3 (.tK 2 (.call ti [⇑0,(.blt .len [⇑2])]))))])
  (I:=λq g=>∃(s:Int) (left ig: ~~~0),left.length=q/\(ig++left).Perm (nums m)/\g=[St s fl,‹m›,.own (left.map .int),.own (ig.map .int)])
  (step:=λq g h=>by
   obtain⟨s,left,ig,h1,h2,rfl⟩:=h;have aJ:=h2.length_eq;rw[fA]at aJ;obtain⟨r,s',q1,q2,q3⟩:=bE U (n:=n+25) (k:=k) (g:=[St s fl,‹m›,.own (left.map .int),.own (ig.map .int)]) (i:=0) (m:=(left.length:Int)) rfl ⋯;obtain⟨j,rfl⟩:∃j:Nat,r=j:=#[r.toNat,by lia]
   have hj:j<left.length:=by lia
   have e1:(left.map D.int)[j]?=!(.int left[j]):=by simp[hj]
   have e2:=tR left j;have z1:=hU (oI _) (ao (left.length+1) ⋯);have z2:=hU (oI _) (ao (ig.length+1) ⋯);have iN:left≠[]:=λe=>by rw[e]at hj;exact absurd hj (mB _)
   refine#[[St s fl,‹m›,.own (left.map .int),.own (ig.map .int)],[St s' fl,‹m›,.own ((left.eraseIdx j).map .int),.own ((ig++[left[j]]).map .int)],by simp! [U,Mh,iN],?_,s',left.eraseIdx j,ig++[left[j]],?_,?_,rfl]
   . have BR:=q3;simp! [U,hT,BR,jX hj,e1,e2,z1,z2];simp
   . rw[List.length_eraseIdx_of_lt hj];lia
   .
    refine List.Perm.trans ?_ h2;rw[rV];refine List.Perm.append_left _ ?_;exact yf left j hj)
  (fin:=λg h=>by
   obtain⟨s,left,ig,h1,h2,rfl⟩:=h;have:=List.eq_nil_of_length_eq_zero h1;simp! [U,Mh,this])
 obtain⟨g',⟨s',left,ig,q1,q2,rfl⟩,q3⟩:=loop m 100000 [St s fl,‹m›,.own ((nums m).map .int),.own []] ⋯ #[s,nums m,[],hlm,by simp,rfl]
 have hnil:=List.eq_nil_of_length_eq_zero q1;subst hnil;rw[n0]at q2;refine#[ig,s',Tn.of q2,?_];have hr:bQ 0 m=(nums m).map .int:=yd m;have hp:fB (jI ti).n [St s fl,‹m›]=[St s fl,‹m›,.no,.no]:=rfl;have body:(rn (n+50)).b [0] (k+1) (jI ti).body [St s fl,‹m›,.no,.no]=!(.rt (.dat (~~~ig)),[St s' fl,‹m›,.own [],.own (ig.map .int)]):=by unfold jI;simp! [U,aI m ⋯,ao m ⋯,hr,q3]
 unfold aX;simp only[vars,dF,hi,List.map_cons,List.map_nil];rw[hp,body];rfl
variable(hN:fns[na]?=!eu)(hM:fns[mi]?=!(jI ti))
include hN hM
theorem Ml{i:Nat}{s:Int}{fl:Bool}(m:Nat)(hm:1<=m/\m<=60)(hi:g[i]?=!(St s fl)):∃(l: ~~~5) (row: ~~~0) (s':Int),Mk (m - 1) l/\Tn m row/\aX (rn (n+70)) (iG ti na mi) (k+3) [.var i,‹m›] g=!(.dat (W m (aN dD (l.map (tm row)))),g.set i (St s' fl)):=by
 obtain⟨w,s1,w1,w2,q1⟩:=bE U (n:=n+48) (k:=k+2) (g:=[St s fl,‹m›,.no,.no,.no]) (i:=0) (m:=4) rfl ⋯;have lG:=q1;have e1:aA (rn (n+69)) [0] (k+3) (.set 2 (.call ti [⇑0,↥4])) [St s fl,‹m›,.no,.no,.no]=!(.nx,[St s1 fl,‹m›,‹w›,.no,.no]):=by simp! [U,hT,lG]
 have e2:aA (rn (n+69)) [0] (k+3) (.set 3 (.lst [])) [St s1 fl,‹m›,‹w›,.no,.no]=!(.nx,[St s1 fl,‹m›,‹w›,.own [],.no]):=by simp! [U,ao 0 ⋯]
 obtain⟨g',⟨j,aj,s2,a4,h0,h1,h2,rfl⟩,hq⟩:=bM (T:=.nm 4) (b:=(rn (n+69)).b [0] (k+3) (ym ti)) (λ(j:Nat)=>D.int (1+(j:Int)))
  (I:=λl g=>∃(j:Nat) (aj: ~~~5) (s2:Int) (a4:Slot),j<m/\l=List.range' j (m - 1 - j)/\Mk j aj/\g=[St s2 fl,‹m›,‹w›,.own (aj.map ∅),a4])
  (step:=λa l g h=>by
   obtain⟨j,aj,s2,a4,h0,h1,h2,rfl⟩:=h;have hjm:j<m - 1:=by
    rcases u4 j (m - 1)with h |h
    . exact h
    . rw[Nat.sub_eq_zero_of_le h]at h1;cases h1
   have hc:List.range' j (m - 1 - j)=j::List.range' (j+1) (m - 1 - (j+1)):=by rw[show m - 1 - j=(m - 1 - (j+1))+1 by lia,Cf]
   rw[hc]at h1;injection h1 with e1 e2;subst e1 e2;obtain⟨z,hz⟩:∃z:Int,z=1+(a:Int):=#[_,rfl];rw[<- hz];obtain⟨r,s3,r1,r2,q⟩:=bE U (n:=n+43) (k:=k+2) (g:=[St s2 fl,‹m›,‹w›,.own (aj.map ∅),‹z›]) (i:=0) (m:=z) rfl ⋯
   have q':=q;obtain⟨v,hv,h5⟩:∃v:Int,(0<=v/\v<z)/\L2.fS [D.int r,.int (z - 1),.int 0,.int (if 2<z then z - 2 else 0)] w=!(.int v):=by
    have:w=0\/w=1\/w=2\/w=3:=by lia
    rcases this with rfl |rfl |rfl |rfl
    . exact#[r,by lia,rfl]
    . exact#[z - 1,by lia,rfl]
    . exact#[0,by lia,rfl]
    . exact#[_,by split <;> lia,rfl]
   have hl:=h2.1;have z2:=hU (oI _) (ao (aj.length+1) ⋯);refine#[[St s2 fl,‹m›,‹w›,.own (aj.map ∅),‹z›],[St s3 fl,‹m›,‹w›,.own ((aj++[[v,z]]).map ∅),‹z›],rfl,?_,a+1,aj++[[v,z]],s3,_,by lia,rfl,h2.more ⋯ ⋯,rfl]
   .
    rw[pV];unfold ym;simp! [U,hT,q',h5,z2,ao 4 ⋯,ao 2 ⋯];rfl) (List.range' 0 (m - 1)) [St s1 fl,‹m›,‹w›,.own [],.no] #[0,[],s1,.no,by lia,rfl,#[rfl,λi hi=>absurd hi (mB _)],rfl]
 have hr:bQ 1 (m - 1)=(List.range' 0 (m - 1)).map λ(x:Nat)=>D.int (1+(x:Int)):=by unfold bQ;rw[x4]
 have e3:aA (rn (n+69)) [0] (k+3) (.loop (.nm 4) (.eO ↥1 ⇑1) (ym ti)) [St s1 fl,‹m›,‹w›,.own [],.no]=!(.nx,[St s2 fl,‹m›,‹w›,.own (aj.map ∅),a4]):=by generalize hb:(rn (n+69)).b [0] (k+3) (ym ti)=bb at hq;simp! [U,Tg.ix,cN,aI 1 ⋯,aI m ⋯,hr,hb,hq]
 have hj:j=m - 1:=by
  rcases u4 j (m - 1)with q |q
  .
   have:m - 1 - j=(m - 1 - j - 1)+1:=by lia
   rw[this]at h1;cases h1
  . lia
 subst hj;have hl:=h2.1;have hp:=h2.pr (m:=m) ⋯;obtain⟨row,s3,vq,q4⟩:=vp U hT (n:=n+17) (k:=k+1) (g:=[St s2 fl,‹m›,‹w›,.own (aj.map ∅),a4]) (i:=0) m rfl ⋯
 have q4':=q4;have q5:=λn k=>qT U (n:=n) (k:=k) m ⋯ aj hp ⋯ row vq
 have e4:aA (rn (n+69)) [0] (k+3) (.ret (.call na [(.tup [⇑1,(.blt .tuple [⇑3])]),(.call mi [⇑0,⇑1])])) [St s2 fl,‹m›,‹w›,.own (aj.map ∅),a4]=!(.rt (.dat (W m (aN dD (aj.map (tm row))))),[St s3 fl,‹m›,‹w›,.own (aj.map ∅),a4]):=by simp! [U,ao 2 ⋯,hM,q4',hN,bu (fx:=eu) rfl,q5]
 refine#[aj,row,s3,h2,vq,?_];have hpd:fB (iG ti na mi).n [St s fl,‹m›]=[St s fl,‹m›,.no,.no,.no]:=rfl;have body:(rn (n+70)).b [0] (k+3) (iG ti na mi).body [St s fl,‹m›,.no,.no,.no]=!(.rt (.dat (W m (aN dD (aj.map (tm row))))),[St s3 fl,‹m›,‹w›,.own (aj.map ∅),a4]):=by unfold iG;rw[U.b,au e1,au e2,au e3];unfold cP;rw[e4]
 unfold aX;simp only[vars,dF,hi,List.map_cons,List.map_nil];rw[hpd,body];rfl
theorem vA(m:Nat)(hm:1<=m/\m<=6)(hi:g[i]?=!(St s fl)):∃(aj: ~~~5) (s':Int),Wb m aj/\aj.length<=5/\aX (rn (n+70)) (iG ti na mi) (k+3) [.var i,‹m›] g=!(.dat (W m aj),g.set i (St s' fl)):=by
 obtain⟨aj,row,s3,h2,vq,q⟩:=Ml U hT hN hM m ⋯ hi;have hp:=h2.pr (m:=m) ⋯;have hl:=h2.1;have aJ:(aN dD (aj.map (tm row))).length=aj.length:=by rw[(aQ _).length_eq,d6]
 refine#[aN dD (aj.map (tm row)),s3,#[λx hx=>?_,dU (jq h2.nodup λx hx y hy e=>Ao vq (hp x hx) (hp y hy) e),by lia],by lia,q]
 obtain⟨y,hy,rfl⟩:=eC.mp ((aQ _).mem_iff.mp hx);exact Dj vq (hp y hy)
end
def Mm(ti:Nat):Sm:=.set 1 (.ix (.lst [↥6,↥5,↥4,↥6,↥3,↥5,↥2,↥1]) (.call ti [⇑0,↥8]))
def Mp:Ex:=.tup [⇑4,⇑11]
noncomputable def Mq(ti:Nat):Option Ex:=!(.cmp .Lt (.call ti [⇑0,↥4]) (.bin .Add ⇑2 ↥1))
def qU(ti:Nat):List Sm:=[(.expr (.extend 3 (.comp 10 2 (.nm 11) (.eO (.bin .Add ⇑4 ↥1) ⇑1) (Mq ti) Mp)))]
def Zq(ti:Nat):Sm:=.ite (.cmp .Lt ⇑2 ↥3) [(.loop (.nm 4) (.cz ⇑1) (qU ti)),(.ret (.tup [⇑1,(.blt .tuple [⇑3])]))] []
noncomputable def GJ(tr:Nat):Sm:=.ite (.cmp .Eq ⇑2 ↥3) [(.ret (.call tr [⇑0,⇑1]))] []
def w2b(ti tr:Nat):List Sm:=[(.set 6 (.call tr [⇑0,⇑1])),(.tgt (.tp [4,5]) (.blt .sorted [(.lst [(.call ti [⇑0,⇑1]),(.call ti [⇑0,⇑1])])])),(.setC 3 (.comp 10 2 (.nm 11) (.ix ⇑6 ↥1) (!(.cmp .NotEq ⇑11 (.tup [⇑4,⇑5]))) ⇑11)),(.ite (.and [(.cmp .Lt ⇑4 ⇑5),(.cmp .Eq (.blt .len [⇑3]) (.blt .len [(.ix ⇑6 ↥1)]))]) [(.expr (.append 3 (.tup [⇑4,⇑5])))] []),(.ret (.tup [⇑1,(.blt .tuple [(.blt .sorted [⇑3])])]))]
def tY(ti tr:Nat):Sm:=.ite (.cmp .Eq ⇑2 ↥4) (w2b ti tr) []
def w2c:Sm:=.setC 9 (.comp 10 3 (.tp [11,12]) (.ix ⇑8 ↥1) none (.tup [(.bin .Add ⇑7 ⇑11),(.bin .Add ⇑7 ⇑12)]))
def w2r(na mi:Nat):Sm:=.ret (.call na [(.tup [(.bin .Mult ↥2 ⇑7),(.bin .Add (.ix ⇑8 ↥1) (.blt .tuple [⇑9]))]),(.call mi [⇑0,(.bin .Mult ↥2 ⇑7)])])
def qV(ti na mi tr:Nat):Fx:=#[1,10,[(Mm ti),(.set 2 (.call ti [⇑0,↥6])),(.set 3 (.lst [])),(Zq ti),(GJ tr),(tY ti tr),(.set 7 (.bin .Add ↥1 (.call ti [⇑0,↥3]))),(.set 8 (.call tr [⇑0,⇑7])),w2c,(w2r na mi)]]
theorem Yo{α:Type}(cR f:α->D)(gs:Int->G)(hn:∀s,(gs s).length=nn)(hj1:nn<=j)(hj2:j<nn+kk) :
  ∀(items:List α) (s:Int) (m:G) (acc:List D),m.length=kk->acc.length+items.length<=lim->
  (∀a∈items,∀s m acc,m.length=kk->m[j - nn]?=!(.dat (cR a))->∃b s',nP rn bor k c (gM (gs s) m acc)=!(b,gM (gs s') m acc))->
  (∀a∈items,∀s m acc,m.length=kk->m[j - nn]?=!(.dat (cR a))->fT rn bor k e (gM (gs s) m acc)=!(f a,gM (gs s) m acc))->
  ∃(sub:List α) (s':Int) (m':G),sub.Sublist items/\m'.length=kk/\zS rn bor k (.nm j) (nn+kk) c e (items.map cR) (gM (gs s) m acc)=!(gM (gs s') m' (acc++sub.map f))
 | [],s,m,acc,hm,_,_,_=>#[[],s,m,BO _,hm,by simp[zS]]
 |a::items,s,m,acc,hm,hl,hc,he=>by
  rw[hV]at hl;have hjm:j - nn<m.length:=by lia
  have q1:(Tg.nm j).set (cR a) (gM (gs s) m acc)=!(gM (gs s) (m.set (j - nn) (.dat (cR a))) acc):=by
   have:=qK (g:=gs s) (kk:=kk) (d:=cR a) (m:=m) (acc:=acc) (by rw[hn];exact hj1) (by rw[hn];exact hjm)
   rw[hn]at this;exact this
  have hm':(m.set (j - nn) (.dat (cR a))).length=kk:=by simpa using hm
  have hg:(m.set (j - nn) (.dat (cR a)))[j - nn]?=!(.dat (cR a)):=by rw[gL hjm]
  obtain⟨b,s',q2⟩:=hc a b0 s _ acc hm' hg;rw[List.map_cons];unfold zS;rw[q1];dsimp only;rw[q2];cases b with
  |false=>
   obtain⟨sub,s2,m2,w1,w2,w3⟩:=Yo cR f gs hn hj1 hj2 items s' _ acc hm' ⋯ (λx hx=>hc x (bP _ hx)) (λx hx=>he x (bP _ hx))
   exact#[sub,s2,m2,w1.cons a,w2,w3]
  |true=>
   dsimp only;rw[he a b0 s' _ acc hm' hg];dsimp only;have q4:(gM (gs s') (m.set (j - nn) (.dat (cR a))) acc)[nn+kk]?=!(.own acc):=by have:=fV (g:=gs s') (m:=m.set (j - nn) (.dat (cR a))) (acc:=acc);rw[hn,hm']at this;exact this
   rw[q4];dsimp only;rw[eR ⋯];have q5:(gM (gs s') (m.set (j - nn) (.dat (cR a))) acc).set (nn+kk) (.own (acc++[f a]))=gM (gs s') (m.set (j - nn) (.dat (cR a))) (acc++[f a]):=by have:=iZ (g:=gs s') (m:=m.set (j - nn) (.dat (cR a))) (acc:=acc) (acc':=acc++[f a]);rw[hn,hm']at this;exact this
   rw[q5];obtain⟨sub,s2,m2,w1,w2,w3⟩:=Yo cR f gs hn hj1 hj2 items s' _ (acc++[f a]) hm' (by rw[fA,tJ];lia) (λx hx=>hc x (bP _ hx)) (λx hx=>he x (bP _ hx))
   refine#[a::sub,s2,m2,w1.cons_cons a,w2,?_];rw[w3];simp
theorem Yp{α:Type}(items:List α)(cR f:α->D)(gs:Int->G)(hn:∀s,(gs s).length=nn)(hj1:nn<=j)(hj2:j<nn+kk)(hw:cN rn bor k false it g=!(items.map cR,gs s))(hb:j∉bor)(hl:items.length<=lim)
  (hc:∀a∈items,∀s m acc,m.length=kk->m[j - nn]?=!(.dat (cR a))->∃b s',nP rn bor k c (gM (gs s) m acc)=!(b,gM (gs s') m acc))
  (he:∀a∈items,∀s m acc,m.length=kk->m[j - nn]?=!(.dat (cR a))->fT rn bor k e (gM (gs s) m acc)=!(f a,gM (gs s) m acc)) :
  ∃(sub:List α) (s':Int),sub.Sublist items/\bS rn bor k nn kk (.nm j) it c e g=!(sub.map f,gs s'):=by
 obtain⟨sub,s',m',w1,w2,w3⟩:=Yo cR f gs hn hj1 hj2 items s (List.replicate kk .no) [] ⋯ (by simpa using hl) hc he
 refine#[sub,s',w1,?_];unfold bS;rw[show (Tg.nm j).iC=false from rfl,hw]
 dsimp only;rw[eR #[hn s,by simp[Tg.ix,hb]],x8,w3]
 dsimp only;have:(gM (gs s') m' ([]++sub.map f))[nn+kk]?=!(.own ([]++sub.map f)):=by have:=fV (g:=gs s') (m:=m') (acc:=[]++sub.map f);rw[hn,w2]at this;exact this
 rw[this];have ht:=kT (g:=gs s') (m:=m') (acc:=[]++sub.map f);rw[hn]at ht;rw[ht,AX]
theorem Yq{m:Nat}(hm:1<=m/\m<=6):(prs m).Pairwise λx y=>HT.lexLt x y=true:=by apply six hm <;> decide +kernel
theorem Wb.RP(hm:1<=m/\m<=6)(h:l.Sublist (prs m)):Wb m l:=by obtain⟨h1,_,h3⟩:=jZ hm;exact#[λx hx=>h1 x (h.subset hx),(Yq hm).sublist h,l4 h.length_le h3]
section
variable{bor:List Nat}{k n:Nat}{g g1:G}{rn:Nat->Rn}{fns:List Fx}{ti na mi tr:Nat}(U:gI fns rn)(hT:fns[ti]?=!aV)
include U hT
def f2(s:Int)(fl:Bool)(a1 a2 a3 a4 a5 a6 a7 a8 a9:Slot):G:=[St s fl,a1,a2,a3,a4,a5,a6,a7,a8,a9]
theorem Yr(s:Int)(fl:Bool)(m:Nat)(hm:1<=m/\m<=6)(w:Int):∃(l: ~~~5) (s':Int) (a4:Slot),l.Sublist (prs m)/\aA (rn (n+98)) [0] (k+5) (.loop (.nm 4) (.cz ⇑1) (qU ti)) (f2 s fl ‹m› ‹w› (.own []) .no .no .no .no .no .no)=!(.nx,f2 s' fl ‹m› ‹w› (.own (l.map ∅)) a4 .no .no .no .no .no):=by
 obtain⟨g',⟨j,l,s',a4,h0,h1,h2,rfl⟩,h3⟩:=bM (T:=.nm 4) (b:=(rn (n+98)).b [0] (k+5) (qU ti)) (λ(j:Nat)=>D.int (j:Int))
  (I:=λr g=>∃(j:Nat) (l: ~~~5) (s':Int) (a4:Slot),j<=m/\r=List.range' j (m - j)/\l.Sublist (pacc m j)/\g=f2 s' fl ‹m› ‹w› (.own (l.map ∅)) a4 .no .no .no .no .no)
  (step:=λa r g h=>by
   obtain⟨j,l,s',a4,h0,h1,h2,rfl⟩:=h;have hjm:j<m:=by
    rcases u4 j m with h |h
    . exact h
    . rw[Nat.sub_eq_zero_of_le h]at h1;cases h1
   have hc:List.range' j (m - j)=j::List.range' (j+1) (m - (j+1)):=by rw[show m - j=(m - (j+1))+1 by lia,Cf]
   rw[hc]at h1;injection h1 with e1 e2;subst e1 e2;have aJ:l.length<=36:=l4 h2.length_le (l4 (yj m a) (l4 (Nat.mul_le_mul (show a<=6 by lia) hm.2) ⋯))
   obtain⟨sub,s2,hs,hq⟩:=Yp (rn:=rn (n+95)) (bor:=[0]) (k:=k+5) (kk:=2) (nn:=10) (j:=11) (it:=.eO (.bin .Add ⇑4 ↥1) ⇑1) (c:=Mq ti) (e:=Mp) (s:=s') (g:=f2 s' fl ‹m› ‹w› (.own (l.map ∅)) ‹a› .no .no .no .no .no) (List.range (m - (a+1))) (λi=>D.int ((a:Int)+1+(i:Int))) (λi=>D.tup [.int (a:Int),.int ((a:Int)+1+(i:Int))]) (λs=>f2 s fl ‹m› ‹w› (.own (l.map ∅)) ‹a› .no .no .no .no .no) (λ_=>rfl) ⋯ ⋯ (by
     have e:((m:Int) - ((a:Int)+1)).toNat=m - (a+1):=by lia
     unfold f2;simp! [U,cN,aI ((a:Int)+1) ⋯,aI m ⋯,e,bQ]) ⋯ (ao _ (by simp;lia))
    (λx _ s mm acc h1 h2=>by
     obtain⟨r,s2,r1,r2,q⟩:=bE U (g:=gM (f2 s fl ‹m› ‹w› (.own (l.map ∅)) ‹a› .no .no .no .no .no) mm acc) (i:=0) (m:=4) rfl ⋯
     have q':aX (rn (n+93)) aV (k+4) [.var 0,‹4›] (gM (f2 s fl ‹m› ‹w› (.own (l.map ∅)) ‹a› .no .no .no .no .no) mm acc)=!(‹r›,gM (f2 s2 fl ‹m› ‹w› (.own (l.map ∅)) ‹a› .no .no .no .no .no) mm acc):=q
     have g0:∀s,(gM (f2 s fl ‹m› ‹w› (.own (l.map ∅)) ‹a› .no .no .no .no .no) mm acc)[0]?=!(St s fl):=λ_=>rfl
     have g2:∀s,(gM (f2 s fl ‹m› ‹w› (.own (l.map ∅)) ‹a› .no .no .no .no .no) mm acc)[2]?=!‹w›:=λ_=>rfl
     refine#[decide (r<w+1),s2,?_];simp! [U,Mq,nP,hT,g0,g2,q'])
    (λx _ s mm acc h1 h2=>by
     have g4:∀s,(gM (f2 s fl ‹m› ‹w› (.own (l.map ∅)) ‹a› .no .no .no .no .no) mm acc)[4]?=!‹a›:=λ_=>rfl
     have g11:(gM (f2 s fl ‹m› ‹w› (.own (l.map ∅)) ‹a› .no .no .no .no .no) mm acc)[11]?=!(.dat (.int ((a:Int)+1+(x:Int)))):=by
      have:=bR (g:=f2 s fl ‹m› ‹w› (.own (l.map ∅)) ‹a› .no .no .no .no .no) (m:=mm) (acc:=acc) (i:=1) ⋯
      exact this.trans h2
     simp! [U,Mp,g4,g11,ao 2 ⋯])
   have hsub:(l++sub.map λ(i:Nat)=>[(a:Int),(a:Int)+1+(i:Int)]).Sublist (pacc m (a+1)):=by rw[tX];exact h2.append (hs.map _)
   have es:sub.map (λ(i:Nat)=>D.tup [.int (a:Int),.int ((a:Int)+1+(i:Int))])=(sub.map λ(i:Nat)=>[(a:Int),(a:Int)+1+(i:Int)]).map λx=>~~~x:=by rw[List.map_map];rfl
   rw[es]at hq;have hl2:(sub.map λ(i:Nat)=>[(a:Int),(a:Int)+1+(i:Int)]).length<=6:=by rw[d6];exact l4 hs.length_le (by simp;lia)
   generalize hS:(sub.map λ(i:Nat)=>[(a:Int),(a:Int)+1+(i:Int)])=ss at hq hsub hl2
   have z:l.length+ss.length<=lim:=ao _ ⋯;refine#[f2 s' fl ‹m› ‹w› (.own (l.map ∅)) ‹a› .no .no .no .no .no,f2 s2 fl ‹m› ‹w› (.own ((l++ss).map ∅)) ‹a› .no .no .no .no .no,rfl,?_,a+1,l++ss,s2,_,by lia,rfl,hsub,rfl]
   unfold qU;unfold f2 at hq ⊢
   simp! [U,hq,z]) (List.range' 0 m) (f2 s fl ‹m› ‹w› (.own []) .no .no .no .no .no .no) #[0,[],s,.no,by lia,rfl,BO _,rfl]
 have hj:j=m:=by
  have:(List.range' j (m - j)).length=0:=by rw[<- h1];rfl
  rw[List.length_range']at this;lia
 subst hj;have hr:bQ 0 j=(List.range' 0 j).map λ(x:Nat)=>D.int (x:Int):=by unfold bQ;rw[x4];exact i7 λx _=>by rw[CS]
 refine#[l,s',a4,h2,?_];generalize hb:(rn (n+98)).b [0] (k+5) (qU ti)=bb at h3;unfold f2 at h3 ⊢
 simp! [U,Tg.ix,cN,aI j ⋯,hr,hb,h3]
end
section
variable{bor:List Nat}{k n:Nat}{g g1:G}{rn:Nat->Rn}{fns:List Fx}{ti na mi tr:Nat}(U:gI fns rn)(hT:fns[ti]?=!aV)
include U hT
variable(hN:fns[na]?=!eu)(hM:fns[mi]?=!(jI ti))(hR:fns[tr]?=!(iG ti na mi))
include hN hM hR
theorem Ys(s:Int)(fl:Bool)(m:Nat)(hm:1<=m/\m<=6):∃(aj: ~~~5) (s':Int) (g':G),Wb m aj/\g'[0]?=!(St s' fl)/\(rn (n+99)).b [0] (k+5) (w2b ti tr) (f2 s fl ‹m› ‹4› (.own []) .no .no .no .no .no .no)=!(.rt (.dat (W m aj)),g'):=by
 obtain⟨aj,s1,ht,tl,q1⟩:=vA U hT hN hM (g:=f2 s fl ‹m› ‹4› (.own []) .no .no .no .no .no .no) (i:=0) m hm rfl;have lG:aX (rn (n+97)) (iG ti na mi) (k+4) [.var 0,‹m›] [St s fl,‹m›,‹4›,.own [],.no,.no,.no,.no,.no,.no]=!(.dat (W m aj),[St s1 fl,‹m›,‹4›,.own [],.no,.no,.no,.no,.no,.no]):=q1;have e1:aA (rn (n+98)) [0] (k+5) (.set 6 (.call tr [⇑0,⇑1])) [St s fl,‹m›,‹4›,.own [],.no,.no,.no,.no,.no,.no]=!(.nx,[St s1 fl,‹m›,‹4›,.own [],.no,.no,.dat (W m aj),.no,.no,.no]):=by simp! [U,hR,lG]
 obtain⟨r1,s2,a1,a2,q2⟩:=bE U (n:=n+75) (k:=k+4) (g:=[St s1 fl,‹m›,‹4›,.own [],.no,.no,.dat (W m aj),.no,.no,.no]) (i:=0) (m:=(m:Int)) rfl ⋯;have uK:=q2;obtain⟨r2,s3,a3,a4,q3⟩:=bE U (n:=n+75) (k:=k+4) (g:=[St s2 fl,‹m›,‹4›,.own [],.no,.no,.dat (W m aj),.no,.no,.no]) (i:=0) (m:=(m:Int)) rfl ⋯;have BR:=q3;obtain⟨a,b,hab,he⟩:∃a b:Int,(0<=a/\a<=b/\b<m)/\bO [r1,r2]=[a,b]:=by
  rw[show bO [r1,r2]=if r1<=r2 then [r1,r2]else [r2,r1]by simp only[bO,ins]]
  split
  . exact#[r1,r2,by lia,rfl]
  . exact#[r2,r1,by lia,rfl]
 have bs:jH .sorted [.lst [.int r1,.int r2]]=!(.new [.int a,.int b]):=by rw[RL,he];rfl
 have st:Tg.set (.tp [4,5]) (.lst [.int a,.int b]) [St s3 fl,‹m›,‹4›,.own [],.no,.no,.dat (W m aj),.no,.no,.no]=![St s3 fl,‹m›,‹4›,.own [],‹a›,‹b›,.dat (W m aj),.no,.no,.no]:=rfl;have e2:aA (rn (n+98)) [0] (k+5) (.tgt (.tp [4,5]) (.blt .sorted [(.lst [(.call ti [⇑0,⇑1]),(.call ti [⇑0,⇑1])])])) [St s1 fl,‹m›,‹4›,.own [],.no,.no,.dat (W m aj),.no,.no,.no]=!(.nx,[St s3 fl,‹m›,‹4›,.own [],‹a›,‹b›,.dat (W m aj),.no,.no,.no]):=by simp! [U,hT,uK,BR,bs,st,Tg.ix,ao 2 ⋯]
 have i1:CV (W m aj) (.int 1)=!(.tup (aj.map ∅)):=rfl
 have w3:=Df (rn:=rn (n+98)) (bor:=[0]) (k:=k+5) (g:=[St s3 fl,‹m›,‹4›,.own [],‹a›,‹b›,.dat (W m aj),.no,.no,.no]) (g1:=[St s3 fl,‹m›,‹4›,.own [],‹a›,‹b›,.dat (W m aj),.no,.no,.no]) (kk:=2) (nn:=10) (j:=11) (it:=.ix ⇑6 ↥1) (c:=!(.cmp .NotEq ⇑11 (.tup [⇑4,⇑5]))) (e:=.slot 11) aj ∅ (λx=>(not (decide (x=[a,b])))) ∅ (by simp! [U,cN,i1]) rfl ⋯ ⋯ ⋯ (ao _ ⋯)
  (λx _ G' hG=>by
   have h4:=hG.1 4 ⋯;have h5:=hG.1 5 ⋯;have cn:cY .NotEq (~~~x) (.tup [.int a,.int b])=!((not (decide (x=[a,b])))):=vo x [a,b];simp! [U,nP,hG.2,h4,h5,cn,ao 2 ⋯])
  (λx _ _ G' hG=>by simp! [U,hG.2])
 generalize hF:(aj.filter λx=>(not (decide (x=[a,b]))))=NZ at w3
 have e3:aA (rn (n+98)) [0] (k+5) (.setC 3 (.comp 10 2 (.nm 11) (.ix ⇑6 ↥1) (!(.cmp .NotEq ⇑11 (.tup [⇑4,⇑5]))) ⇑11)) [St s3 fl,‹m›,‹4›,.own [],‹a›,‹b›,.dat (W m aj),.no,.no,.no]=!(.nx,[St s3 fl,‹m›,‹4›,.own (NZ.map ∅),‹a›,‹b›,.dat (W m aj),.no,.no,.no]):=by simp only[aA,w3];simp
 have fs:NZ.Sublist aj:=by rw[<- hF];exact Bz
 have hfl:=fs.length_le;have z3:=hU (oI _) (ao (NZ.length+1) ⋯);obtain⟨l,hl,e4⟩:∃l:List (~~~0),((∀x∈l,Pr m x)/\l.Nodup/\l.length<=15)/\aA (rn (n+98)) [0] (k+5) (.ite (.and [(.cmp .Lt ⇑4 ⇑5),(.cmp .Eq (.blt .len [⇑3]) (.blt .len [(.ix ⇑6 ↥1)]))]) [(.expr (.append 3 (.tup [⇑4,⇑5])))] []) [St s3 fl,‹m›,‹4›,.own (NZ.map ∅),‹a›,‹b›,.dat (W m aj),.no,.no,.no]=!(.nx,[St s3 fl,‹m›,‹4›,.own (l.map ∅),‹a›,‹b›,.dat (W m aj),.no,.no,.no]):=by
  by_cases h1:a<b
  .
   by_cases h2:NZ.length=aj.length
   .
    have h2':((NZ.length:Nat):Int)=aj.length:=by lia
    refine#[NZ++[[a,b]],#[λx hx=>?_,?_,by simp;lia],?_]
    .
     rcases o5.mp hx with hx |hx
     . exact ht.tie x (fs.subset hx)
     . rw[fI]at hx;exact#[a,b,hx,by lia,h1,by lia]
    .
     refine oT.mpr #[fs.nodup ht.nodup,by simp,λx hx y hy e=>?_]
     rw[fI]at hy;subst e hy;rw[<- hF]at hx;have:=(lL.mp hx).2;simp at this
    . rw[pV];simp! [U,h1,i1,h2',z3,ao 2 ⋯];rfl
   .
    have h2' : ¬ ((NZ.length:Nat):Int)=aj.length:=by lia
    refine#[NZ,#[λx hx=>ht.tie x (fs.subset hx),fs.nodup ht.nodup,by lia],?_]
    simp! [U,h1,i1,h2']
  .
   refine#[NZ,#[λx hx=>ht.tie x (fs.subset hx),fs.nodup ht.nodup,by lia],?_]
   simp! [U,h1]
 have bs2:=fH l (λx hx e=>by obtain⟨a,b,e',_⟩:=hl.1 x hx;rw[e']at e;cases e) ⋯
 have e5:aA (rn (n+98)) [0] (k+5) (.ret (.tup [⇑1,(.blt .tuple [(.blt .sorted [⇑3])])])) [St s3 fl,‹m›,‹4›,.own (l.map ∅),‹a›,‹b›,.dat (W m aj),.no,.no,.no]=!(.rt (.dat (W m (aN dD l))),[St s3 fl,‹m›,‹4›,.own (l.map ∅),‹a›,‹b›,.dat (W m aj),.no,.no,.no]):=by simp! [U,bs2];rfl
 have hp:=aQ (O:=dD) l;refine#[aN dD l,s3,[St s3 fl,‹m›,‹4›,.own (l.map ∅),‹a›,‹b›,.dat (W m aj),.no,.no,.no],#[λx hx=>hl.1 x (hp.mem_iff.mp hx),dU hl.2.1,by rw[hp.length_eq];exact hl.2.2],rfl,?_]
 unfold w2b f2;rw[U.b,au e1,au e2,au e3,au e4];unfold cP;rw[e5]
end
section
variable{bor:List Nat}{k n:Nat}{g g1:G}{rn:Nat->Rn}{fns:List Fx}{ti na mi tr:Nat}(U:gI fns rn)(hT:fns[ti]?=!aV)
include U hT
variable(hN:fns[na]?=!eu)(hM:fns[mi]?=!(jI ti))(hR:fns[tr]?=!(iG ti na mi))
include hN hM hR
def w2h(ti na mi tr:Nat):List Sm:=[(.set 7 (.bin .Add ↥1 (.call ti [⇑0,↥3]))),(.set 8 (.call tr [⇑0,⇑7])),w2c,(w2r na mi)]
def sh(h:Nat)(x: ~~~0): ~~~0:=[(h:Int)+gt x 0,(h:Int)+gt x 1]
omit U hT hN hM hR in
theorem Yt(h:Nat)(hx:Pr m x)(hy:Pr m y)(e:sh h x=sh h y):x=y:=by
 obtain⟨a,b,rfl,_⟩:=hx;obtain⟨c,d,rfl,_⟩:=hy;unfold sh at e;rw[(eT a b).1,(eT a b).2,(eT c d).1,(eT c d).2]at e;simp only[A3,and_true]at e;obtain⟨e1,e2⟩:=e;have:a=c:=by lia
 have:b=d:=by lia
 subst a b;rfl
theorem Yu(s:Int)(fl:Bool)(m w:Int):∃(M:Nat) (aj: ~~~5) (s':Int) (g':G),(1<=M/\M<=6)/\Wb M aj/\g'[0]?=!(St s' fl)/\cP (rn (n+99)) [0] (k+5) (w2h ti na mi tr) (f2 s fl ‹m› ‹w› (.own []) .no .no .no .no .no .no)=!(.rt (.dat (W M aj)),g'):=by
 obtain⟨r,s1,a1,a2,q1⟩:=bE U (n:=n+77) (k:=k+4) (g:=[St s fl,‹m›,‹w›,.own [],.no,.no,.no,.no,.no,.no]) (i:=0) (m:=3) rfl ⋯;have lG:=q1;obtain⟨h,hr,h1,h2⟩:∃h:Nat,1+r=(h:Int)/\1<=h/\h<=3:=#[(1+r).toNat,by lia,by lia,by lia]
 have e1:aA (rn (n+99)) [0] (k+5) (.set 7 (.bin .Add ↥1 (.call ti [⇑0,↥3]))) [St s fl,‹m›,‹w›,.own [],.no,.no,.no,.no,.no,.no]=!(.nx,[St s1 fl,‹m›,‹w›,.own [],.no,.no,.no,‹h›,.no,.no]):=by simp! [U,hT,lG,hr]
 obtain⟨aj,s2,ht,tl,q2⟩:=vA U hT hN hM (n:=n+28) (k:=k+1) (g:=[St s1 fl,‹m›,‹w›,.own [],.no,.no,.no,‹h›,.no,.no]) (i:=0) h ⋯ rfl;have uK:=q2;have e2:aA (rn (n+99)) [0] (k+5) (.set 8 (.call tr [⇑0,⇑7])) [St s1 fl,‹m›,‹w›,.own [],.no,.no,.no,‹h›,.no,.no]=!(.nx,[St s2 fl,‹m›,‹w›,.own [],.no,.no,.no,‹h›,.dat (W h aj),.no]):=by simp! [U,hR,uK]
 have i1:CV (W h aj) (.int 1)=!(.tup (aj.map ∅)):=rfl
 have w3:=Ah (rn:=rn (n+99)) (bor:=[0]) (k:=k+5) (g:=[St s2 fl,‹m›,‹w›,.own [],.no,.no,.no,‹h›,.dat (W h aj),.no]) (g1:=[St s2 fl,‹m›,‹w›,.own [],.no,.no,.no,‹h›,.dat (W h aj),.no]) (kk:=3) (nn:=10) (j1:=11) (j2:=12) (it:=.ix ⇑8 ↥1) (e:=.tup [(.bin .Add ⇑7 ⇑11),(.bin .Add ⇑7 ⇑12)]) aj (λx=>.int (gt x 0)) (λx=>.int (gt x 1)) (λx=>~~~(sh h x)) (by simp! [U,cN,i1,<- ht.two]) rfl ⋯ ⋯ ⋯ ⋯ ⋯ ⋯ ⋯ (ao _ ⋯) λx hx G' hG=>by
  have h7:=hG.1 7 ⋯;have h5:=hG.2.1;have h6:=hG.2.2;simp! [U,h7,h5,h6];rfl
 have e3:aA (rn (n+99)) [0] (k+5) w2c [St s2 fl,‹m›,‹w›,.own [],.no,.no,.no,‹h›,.dat (W h aj),.no]=!(.nx,[St s2 fl,‹m›,‹w›,.own [],.no,.no,.no,‹h›,.dat (W h aj),.own ((aj.map (sh h)).map ∅)]):=by unfold w2c;simp only[aA,w3];simp
 obtain⟨M,hM2⟩:∃M:Nat,M=2 * h:=#[_,rfl];have e2h:(2:Int) * (h:Int)=(M:Int):=by lia
 have hp:∀x∈aj++aj.map (sh h),Pr M x:=λx hx=>by
  rcases o5.mp hx with hx |hx
  . obtain⟨a,b,e,h⟩:=ht.tie x hx;exact#[a,b,e,by lia,by lia,by lia]
  . obtain⟨y,hy,rfl⟩:=eC.mp hx;obtain⟨a,b,rfl,hh⟩:=ht.tie y hy;exact#[(h:Int)+a,(h:Int)+b,rfl,by lia,by lia,by lia]
 have nd:(aj++aj.map (sh h)).Nodup:=by
  refine oT.mpr #[ht.nodup,jq ht.nodup λx hx y hy e=>Yt h (ht.tie x hx) (ht.tie y hy) e,λx hx y hy e=>?_]
  obtain⟨z,hz,rfl⟩:=eC.mp hy;obtain⟨a,b,e1,h1⟩:=ht.tie x hx;obtain⟨c,d,e2,h2⟩:=ht.tie z hz;subst e1 e2;unfold sh at e;rw[(eT c d).2]at e;lia
 have hln:(aj++aj.map (sh h)).length=aj.length+aj.length:=by simp
 obtain⟨row,s3,vq,q4⟩:=vp U hT (n:=n+47) (k:=k+3) (g:=[St s2 fl,‹m›,‹w›,.own [],.no,.no,.no,‹h›,.dat (W h aj),.own ((aj.map (sh h)).map ∅)]) (i:=0) M rfl ⋯
 have q4':=q4;have q5:=λn k=>qT U (n:=n) (k:=k) M ⋯ (aj++aj.map (sh h)) hp ⋯ row vq
 rw[pV]at q5;have z:aj.length+aj.length<=lim:=ao _ ⋯;have om:nO .Mult (.int 2) (.int h)=!‹M›:=by
  rw[<- e2h];have c:K5 2 (h:Int)=true:=by obtain rfl |rfl |rfl:h=1\/h=2\/h=3:=⋯ <;> decide
  simp only[nO,K7,c,CU]
 have oa:nO .Add (.tup (aj.map ∅)) (.tup ((aj.map (sh h)).map ∅))=!(.dat (.tup ((aj.map ∅)++(aj.map (sh h)).map ∅))):=by simp only[nO,K6];rw[eR (by simpa using z)]
 have e4:aA (rn (n+99)) [0] (k+5) (w2r na mi) [St s2 fl,‹m›,‹w›,.own [],.no,.no,.no,‹h›,.dat (W h aj),.own ((aj.map (sh h)).map ∅)]=!(.rt (.dat (W M (aN dD ((aj++aj.map (sh h)).map (tm row))))),[St s3 fl,‹m›,‹w›,.own [],.no,.no,.no,‹h›,.dat (W h aj),.own ((aj.map (sh h)).map ∅)]):=by unfold w2r;simp! [U,ao 2 ⋯,om,oa,i1,hM,q4',hN,bu (fx:=eu) rfl,q5]
 have aJ:(aN dD ((aj++aj.map (sh h)).map (tm row))).length=aj.length+aj.length:=by rw[(aQ _).length_eq,d6,hln]
 refine#[M,aN dD ((aj++aj.map (sh h)).map (tm row)),s3,[St s3 fl,‹m›,‹w›,.own [],.no,.no,.no,‹h›,.dat (W h aj),.own ((aj.map (sh h)).map ∅)],by lia,#[λx hx=>?_,dU (jq nd λx hx y hy e=>Ao vq (hp x hx) (hp y hy) e),by lia],rfl,?_]
 . obtain⟨y,hy,rfl⟩:=eC.mp ((aQ _).mem_iff.mp hx);exact Dj vq (hp y hy)
 . unfold w2h f2;rw[au e1,au e2,au e3];unfold cP;rw[e4]
end
section
variable{bor:List Nat}{k n:Nat}{g g1:G}{rn:Nat->Rn}{fns:List Fx}{ti na mi tr:Nat}(U:gI fns rn)(hT:fns[ti]?=!aV)
include U hT
variable(hN:fns[na]?=!eu)(hM:fns[mi]?=!(jI ti))(hR:fns[tr]?=!(iG ti na mi))
include hN hM hR
theorem RQ(hi:g[i]?=!(St s fl)):∃(m:Nat) (aj: ~~~5) (s':Int),(1<=m/\m<=6)/\Wb m aj/\aX (rn (n+100)) (qV ti na mi tr) (k+5) [.var i] g=!(.dat (W m aj),g.set i (St s' fl)):=by
 obtain⟨r,s1,a1,a2,q1⟩:=bE U (g:=f2 s fl .no .no .no .no .no .no .no .no .no) (i:=0) (m:=8) rfl ⋯;have lG:aX (rn (n+97)) aV (k+4) [.var 0,‹8›] [St s fl,.no,.no,.no,.no,.no,.no,.no,.no,.no]=!(‹r›,[St s1 fl,.no,.no,.no,.no,.no,.no,.no,.no,.no]):=q1;obtain⟨v,hv,hr⟩:=RJ (l:=[D.int 6,.int 5,.int 4,.int 6,.int 3,.int 5,.int 2,.int 1]) (lo:=1) (hi:=6) #[a1,a2] rfl;obtain⟨m,rfl⟩:∃m:Nat,v=m:=#[v.toNat,by lia]
 have hm:1<=m/\m<=6:=by lia
 have e1:aA (rn (n+99)) [0] (k+5) (Mm ti) (f2 s fl .no .no .no .no .no .no .no .no .no)=!(.nx,f2 s1 fl ‹m› .no .no .no .no .no .no .no .no):=by unfold Mm f2;simp! [U,hT,lG,hr,ao 8 ⋯]
 obtain⟨w,s2,w1,w2,q2⟩:=bE U (g:=f2 s1 fl ‹m› .no .no .no .no .no .no .no .no) (i:=0) (m:=6) rfl ⋯;have uK:aX (rn (n+98)) aV (k+4) [.var 0,‹6›] [St s1 fl,‹m›,.no,.no,.no,.no,.no,.no,.no,.no]=!(‹w›,[St s2 fl,‹m›,.no,.no,.no,.no,.no,.no,.no,.no]):=q2;have e2:aA (rn (n+99)) [0] (k+5) (.set 2 (.call ti [⇑0,↥6])) (f2 s1 fl ‹m› .no .no .no .no .no .no .no .no)=!(.nx,f2 s2 fl ‹m› ‹w› .no .no .no .no .no .no .no):=by unfold f2;simp! [U,hT,uK]
 have e3:aA (rn (n+99)) [0] (k+5) (.set 3 (.lst [])) (f2 s2 fl ‹m› ‹w› .no .no .no .no .no .no .no)=!(.nx,f2 s2 fl ‹m› ‹w› (.own []) .no .no .no .no .no .no):=by unfold f2;simp! [U,ao 0 ⋯]
 obtain⟨M,aj,s3,g',hM2,hw,g0,hq⟩:∃(M:Nat) (aj: ~~~5) (s':Int) (g':G),(1<=M/\M<=6)/\Wb M aj/\g'[0]?=!(St s' fl)/\cP (rn (n+99)) [0] (k+5) ((Zq ti)::(GJ tr)::(tY ti tr)::w2h ti na mi tr) (f2 s2 fl ‹m› ‹w› (.own []) .no .no .no .no .no .no)=!(.rt (.dat (W M aj)),g'):=by
  by_cases c1:w<3
  .
   obtain⟨l,s3,a4,hs,hq⟩:=Yr U hT s2 fl m hm w;refine#[m,l,s3,f2 s3 fl ‹m› ‹w› (.own (l.map ∅)) a4 .no .no .no .no .no,hm,Wb.RP hm hs,rfl,?_]
   have hb:(rn (n+99)).b [0] (k+5) [(.loop (.nm 4) (.cz ⇑1) (qU ti)),(.ret (.tup [⇑1,(.blt .tuple [⇑3])]))] (f2 s2 fl ‹m› ‹w› (.own []) .no .no .no .no .no .no)=!(.rt (.dat (W m l)),f2 s3 fl ‹m› ‹w› (.own (l.map ∅)) a4 .no .no .no .no .no):=by rw[U.b,au hq];simp! [U,ao 2 ⋯];rfl
   unfold cP;have:aA (rn (n+99)) [0] (k+5) (Zq ti) (f2 s2 fl ‹m› ‹w› (.own []) .no .no .no .no .no .no)=!(.rt (.dat (W m l)),f2 s3 fl ‹m› ‹w› (.own (l.map ∅)) a4 .no .no .no .no .no):=by
    unfold Zq;generalize ([(.loop (.nm 4) (.cz ⇑1) (qU ti)),(.ret (.tup [⇑1,(.blt .tuple [⇑3])]))]:List Sm)=bb at hb ⊢
    rw[U.b]at hb;unfold f2 at hb ⊢
    simp! [U,c1,hb]
   rw[this]
  .
   have e4:aA (rn (n+99)) [0] (k+5) (Zq ti) (f2 s2 fl ‹m› ‹w› (.own []) .no .no .no .no .no .no)=!(.nx,f2 s2 fl ‹m› ‹w› (.own []) .no .no .no .no .no .no):=by unfold Zq;unfold f2;simp! [U,c1]
   rw[au e4];by_cases c2:w=3
   .
    subst c2;obtain⟨aj,s3,ht,tl,q3⟩:=vA U hT hN hM (g:=f2 s2 fl ‹m› ‹3› (.own []) .no .no .no .no .no .no) (i:=0) m hm rfl;have BR:aX (rn (n+97)) (iG ti na mi) (k+4) [.var 0,‹m›] [St s2 fl,‹m›,‹3›,.own [],.no,.no,.no,.no,.no,.no]=!(.dat (W m aj),[St s3 fl,‹m›,‹3›,.own [],.no,.no,.no,.no,.no,.no]):=q3;refine#[m,aj,s3,f2 s3 fl ‹m› ‹3› (.own []) .no .no .no .no .no .no,hm,ht,rfl,?_];have:aA (rn (n+99)) [0] (k+5) (GJ tr) (f2 s2 fl ‹m› ‹3› (.own []) .no .no .no .no .no .no)=!(.rt (.dat (W m aj)),f2 s3 fl ‹m› ‹3› (.own []) .no .no .no .no .no .no):=by unfold GJ f2;simp! [U,hR,BR]
    unfold cP;rw[this]
   .
    have e5:aA (rn (n+99)) [0] (k+5) (GJ tr) (f2 s2 fl ‹m› ‹w› (.own []) .no .no .no .no .no .no)=!(.nx,f2 s2 fl ‹m› ‹w› (.own []) .no .no .no .no .no .no):=by unfold GJ f2;simp! [U,c2]
    rw[au e5];by_cases c3:w=4
    .
     subst c3;obtain⟨aj,s3,g',ht,hg,q3⟩:=Ys U hT hN hM hR (n:=n) (k:=k) s2 fl m hm;refine#[m,aj,s3,g',hm,ht,hg,?_];have:aA (rn (n+99)) [0] (k+5) (tY ti tr) (f2 s2 fl ‹m› ‹4› (.own []) .no .no .no .no .no .no)=!(.rt (.dat (W m aj)),g'):=by
      unfold tY;rw[U.b]at q3;unfold f2 at q3 ⊢
      simp! [U,q3]
     unfold cP;rw[this]
    .
     have e6:aA (rn (n+99)) [0] (k+5) (tY ti tr) (f2 s2 fl ‹m› ‹w› (.own []) .no .no .no .no .no .no)=!(.nx,f2 s2 fl ‹m› ‹w› (.own []) .no .no .no .no .no .no):=by unfold tY;unfold f2;simp! [U,c3]
     rw[au e6];exact Yu U hT hN hM hR s2 fl m w
 refine#[M,aj,s3,hM2,hw,?_];have hpd:fB (qV ti na mi tr).n [St s fl]=f2 s fl .no .no .no .no .no .no .no .no .no:=rfl;have body:(rn (n+100)).b [0] (k+5) (qV ti na mi tr).body (f2 s fl .no .no .no .no .no .no .no .no .no)=!(.rt (.dat (W M aj)),g'):=by unfold qV;rw[U.b,au e1,au e2,au e3];exact hq
 unfold aX;simp only[vars,dF,hi,List.map_cons,List.map_nil];rw[eR #[rfl,by simp],hpd,body]
 simp only[back,g0,jM]
end
noncomputable def kup:Nat->Nat->Nat->List (~~~0)
 | 0,_,_=>[]
 |f+1,left,most=>if left=0 then [[]]else (List.range (min left most)).flatMap λ(i:Nat)=>(kup f (left - (i+1)) (i+1)).map ((((i+1:Nat):Int)) :: ·)
def kinds(m:Nat): ~~~5:=kup (m+1) m m
noncomputable def adj: ~~~0->Bool
 |a::b::l=>decide (a ≥ b)&&adj (b::l)
 |_=>true
noncomputable def je:Fx:=#[1,1,[(.ret (.blt .all [(.comp 1 2 (.nm 2) (.eO ↥1 (.blt .len [⇑0])) none (.cmp .GtE (.ix ⇑0 (.bin .Sub ⇑2 ↥1)) (.ix ⇑0 ⇑2)))]))]]
def Yv(t: ~~~0):Bool:=(List.range (t.length - 1)).all λi=>decide (gt t i ≥ gt t (i+1))
theorem Dk(a:Int)(l: ~~~0)(i:Nat):gt (a::l) ((i:Int)+1)=gt l i:=by
 unfold gt;rw[show ((i:Int)+1).toNat=i+1 by lia,show (i:Int).toNat=i by lia]
 simp
theorem Dl:∀t:List Int,Yv t=adj t
 | []=>rfl
 | [a]=>rfl
 |a::b::l=>by
  have ih:=Dl (b::l);unfold Yv at ih ⊢
  simp only[hV,Nat.add_sub_cancel]at ih ⊢
  rw[List.range_succ_eq_map,List.all_cons,List.all_map,adj,<- ih];have:∀i:Nat,decide (gt (a::b::l) ((i+1:Nat):Int) ≥ gt (a::b::l) (((i+1:Nat):Int)+1))=decide (gt (b::l) (i:Int) ≥ gt (b::l) ((i:Int)+1)):=λi=>by
   rw[show ((i+1:Nat):Int)=(i:Int)+1 by lia,Dk,show (i:Int)+1+1=((i+1:Nat):Int)+1 by lia,Dk,show ((i+1:Nat):Int)=(i:Int)+1 by lia]
  have h2:(λi:Nat=>decide (gt (a::b::l) (i:Int) ≥ gt (a::b::l) ((i:Int)+1))) ∘ Nat.succ=λi:Nat=>decide (gt (b::l) (i:Int) ≥ gt (b::l) ((i:Int)+1)):=funext this
  rw[h2];rfl
section
variable{k n:Nat}{g g1:G}{rn:Nat->Rn}{fns:List Fx}{w wi mw fa ik ci cj:Nat}(U:gI fns rn)
include U
theorem RT(t: ~~~0)(h:t.length<=1000):bA (rn (n+20)) k je [~~~t]=!(.dat (.bl (adj t))):=by
 have w1:∀n k,bS (rn (n+10)) [] k 1 2 (.nm 2) (.eO ↥1 (.blt .len [⇑0])) none (.cmp .GtE (.ix ⇑0 (.bin .Sub ⇑2 ↥1)) (.ix ⇑0 ⇑2)) [.dat (~~~t)]=!(((List.range (t.length - 1)).map λ(i:Nat)=>decide (gt t i ≥ gt t (i+1))).map .bl,[.dat (~~~t)]):=λn k=>by
  rw[List.map_map];refine kU (rn:=rn (n+10)) (bor:=[]) (k:=k) (g:=[.dat (~~~t)]) (g1:=[.dat (~~~t)]) (kk:=2) (nn:=1) (j:=2) (List.range (t.length - 1)) (λ(i:Nat)=>D.int (1+(i:Int))) (λ(i:Nat)=>.bl (decide (gt t i ≥ gt t (i+1)))) ?_ rfl ⋯ ⋯ ⋯ (ao _ (by rw[AL];lia)) λi hi G' hG=>?_
  .
   have hr:((t.length:Int) - 1).toNat=t.length - 1:=by lia
   have o1:=aI 1 ⋯;have o2:=aI (t.length:Int) ⋯;simp! [U,cN,o1,o2,bQ,hr]
  .
   have h0:=hG.1 0 ⋯;have h2:=hG.2;rw[lS]at hi;have a1:L2.fS (t.map D.int) (1+(i:Int) - 1)=!(.int (gt t i)):=by rw[show 1+(i:Int) - 1=(i:Int)by lia];exact gB ⋯
   have a2:L2.fS (t.map D.int) (1+(i:Int))=!(.int (gt t (i+1))):=by rw[show 1+(i:Int)=(i:Int)+1 by lia];exact gB ⋯
   simp only[List.getElem?_cons_zero]at h0;simp! [U,h0,h2,a1,a2]
 have e:((List.range (t.length - 1)).map λ(i:Nat)=>decide (gt t i ≥ gt t (i+1))).all id=adj t:=by rw[<- Dl];unfold Yv;rw[List.all_map];rfl
 unfold bA je;simp! [U,w1,e]
variable(hW:fns[w]?=!bD)(hF:fns[fa]?=!je)(hI:fns[wi]?=!(aO w))
include hW hF hI
end
def aY(wi fa:Nat):Fx:=#[1,1,[(.ite (.or [(.not (.K4 ⇑0 "tuple")),(.not (.chain ↥1 [.LtE,.LtE] [(.blt .len [⇑0]),↥12]))]) (~~~4) []),(.ret (.and [(.blt .all [(.comp 1 2 (.nm 2) ⇑0 none (.call wi [⇑2,↥0,(.bin .Sub (.blt .len [⇑0]) ↥1)]))]),(.call fa [⇑0])]))]]
def Few:D->Prop
 |.tup l=>l.length<=40
 |_=>True
def Ua(l:List D):Bool:=l.all (Ak 0 ((l.length:Int) - 1))
def Mr:D->Bool
 |.tup l=>decide (1<=l.length/\l.length<=12)&&(Ua l&&match bH l with |some t=>adj t |none=>false)
 |_=>false
theorem Dm(h:1<=l.length/\l.length<=12):Mr (.tup l)=(Ua l&&match bH l with |some t=>adj t |none=>false):=by
 show (decide (1<=l.length/\l.length<=12)&&(Ua l&&match bH l with |some t=>adj t |none=>false))=_
 rw[i5 h,Bool.true_and]
theorem yp(h : ¬ (1<=l.length/\l.length<=12)):Mr (.tup l)=false:=by
 show (decide (1<=l.length/\l.length<=12)&&(Ua l&&match bH l with |some t=>adj t |none=>false))=_
 rw[mN h,Bool.false_and]
theorem Ms(h:Ua l=true):∃t:List Int,l=t.map .int:=tT (hZ.mpr λx hx=>by
 have:=hZ.mp h x hx;cases x <;> first |rfl |cases this)
theorem Mt:∀t:List Int,adj t=true ↔ t.Pairwise (· ≥ ·)
 | []=>by simp[adj]
 | [a]=>by simp[adj]
 |a::b::l=>by
  have ih:=Mt (b::l);rw[adj,eM,ih,l9];constructor
  .
   rintro⟨h1,h2⟩;refine oC.mpr #[λx hx=>?_,h2]
   rcases eJ.mp hx with rfl |hx
   . exact h1
   . have:=(oC.mp h2).1 x hx;lia
  . intro h;exact#[(oC.mp h).1 b b0,(oC.mp h).2]
section
variable{k n:Nat}{g g1:G}{rn:Nat->Rn}{fns:List Fx}{w wi fa:Nat}(U:gI fns rn)(hW:fns[w]?=!bD)
include U hW
theorem nk(hI:fns[wi]?=!(aO w))(hF:fns[fa]?=!je)(d:D)(hd:Few d):bA (rn (n+40)) (k+2) (aY wi fa) [d]=!(.dat (.bl (Mr d))):=by
 cases d with
 |tup l=>
  by_cases c1:1<=l.length
  .
   by_cases c2:l.length<=12
   .
    have Yw:(1:Int)<=l.length:=by lia
    have c2':(l.length:Int)<=12:=by lia
    have o:∀n k,bS (rn (n+20)) [] (k+2) 1 2 (.nm 2) ⇑0 none (.call wi [⇑2,↥0,(.bin .Sub (.blt .len [⇑0]) ↥1)]) [.dat (.tup l)]=!((l.map (Ak 0 ((l.length:Int) - 1))).map .bl,[.dat (.tup l)]):=λn k=>by
     rw[List.map_map];have:=kU (rn:=rn (n+20)) (bor:=[]) (k:=k+2) (g:=[.dat (.tup l)]) (g1:=[.dat (.tup l)]) (kk:=2) (j:=2) (it:=.slot 0) (e:=.call wi [⇑2,↥0,(.bin .Sub (.blt .len [⇑0]) ↥1)]) l id (λx=>.bl (Ak 0 ((l.length:Int) - 1) x)) (by simp! [U,cN]) rfl ⋯ ⋯ ⋯ (ao _ ⋯) λa _ G' hG=>by
      have h0:=hG.1 0 ⋯;have h2:=hG.2;simp! [U,h0,h2,hI,jo (fx:=aO w) rfl,jt U hW]
     exact this
    have ea:(l.map (Ak 0 ((l.length:Int) - 1))).all id=Ua l:=by simp[Ua]
    rw[Dm #[c1,c2]];cases e:Ua l with
    |false=>rw[e]at ea;unfold bA aY;simp! [U,Yw,c2',o,ea]
    |true=>
     rw[e]at ea;obtain⟨t,rfl⟩:=Ms e;have tl:t.length<=12:=by simpa using c2
     have fa':=λn k=>RT U (n:=n) (k:=k) t ⋯
     rw[ints_map];unfold bA aY;simp only[d6]at Yw c2' o ea;simp! [U,Yw,c2',o,ea,hF,az (fx:=je) rfl,fa']
   .
    have Yw:(1:Int)<=l.length:=by lia
    have c2' : ¬ (l.length:Int)<=12:=by lia
    rw[yp ⋯];unfold bA aY;simp! [U,Yw,c2']
  .
   have Yw : ¬ (1:Int)<=l.length:=by lia
   rw[yp ⋯];unfold bA aY;simp! [U,Yw]
 |_=>unfold bA aY;simp! [U,qx,Hu,Mr]
end
def Qz(i:Int)(x: ~~~0):Option Int:=if gt x 0=i then some (gt x 1)else if gt x 1=i then some (gt x 0)else none
def nb(i:Int)(aj: ~~~5): ~~~0:=aj.filterMap (Qz i)
noncomputable def has(i:Int)(x: ~~~0):Bool:=decide (gt x 0=i)||decide (gt x 1=i)
theorem vB(i:Int)(aj: ~~~5):(nb i aj).length=aj.countP (has i):=by
 induction aj with
 |nil=>rfl
 |cons x l ih=>
  unfold nb at ih ⊢
  by_cases h1:gt x 0=i
  . simp[Qz,has,h1,ih]
  .
   by_cases h2:gt x 1=i
   . simp[Qz,has,h1,h2,ih]
   . simp[Qz,has,h1,h2,ih]
def ext(m:Nat)(l: ~~~5): ~~~5:=l.flatMap λr=>((nums m).filter λx=>(not (decide (x∈r)))).map λx=>r++[x]
def dW(m:Nat):Nat->List (~~~0)
 | 0=>[[]]
 |s+1=>ext m (dW m s)
def turnsOf(m:Nat): ~~~5:=dW m m
theorem nq(m:Nat):∀s,(dW m s).length<=m ^ s
 | 0=>eD 1
 |s+1=>by
  have ih:=nq m s;have:∀l:List (~~~0),(ext m l).length<=l.length * m:=λl=>by
   induction l with
   |nil=>simp[ext]
   |cons r l ih=>
    unfold ext at ih ⊢
    rw[wE,fA,d6,hV];have:=List.length_filter_le (λx=>(not (decide (x∈r)))) (nums m)
    rw[qO]at this;lia
  exact l4 (this _) (Nat.mul_le_mul_right m ih)
def RV(m:Nat):Bool:=(turnsOf m).all (λt=>decide (bO t=nums m))&&decide ((turnsOf m).length<=720)
theorem okT1:RV 1=true:=by decide +kernel
theorem okT2:RV 2=true:=by decide +kernel
theorem okT3:RV 3=true:=by decide +kernel
theorem okT4:RV 4=true:=by decide +kernel
theorem okT5:RV 5=true:=by decide +kernel
theorem okT6:RV 6=true:=by decide +kernel
theorem bh(hm:1<=m/\m<=6):(∀t∈turnsOf m,Tn m t)/\(turnsOf m).length<=720:=by
 have k:RV m=true:=six (p:=λm=>RV m=true) hm okT1 okT2 okT3 okT4 okT5 okT6
 unfold RV at k;simp only[eM,hZ,l9]at k;exact#[λt ht=>k.1 t ht,k.2]
section
theorem tZ{α β:Type}(aM:α->D)(ys:α->List β)(bq:β->D)(p:α->β->Bool)(f:α->β->D)(hn:nn=g.length)(bW:last=g.length+kk)(h11:g.length<=j1)(h12:j1<g.length+kk)(h21:g.length<=j2)(h22:j2<g.length+kk)(iN:j1≠j2) :
  ∀(xs:List α) (m:G) (acc:List D),m.length=kk->acc.length+(xs.flatMap ys).length<=lim->
  (∀a∈xs,∀G',qL g j1 (aM a) G'->cN rn bor k false it G'=!((ys a).map bq,G'))->
  (∀a∈xs,∀b∈ys a,∀G',fW g j1 j2 (aM a) (bq b) G'->nP rn bor k c G'=!(p a b,G'))->
  (∀a∈xs,∀b∈ys a,p a b=true->∀G',fW g j1 j2 (aM a) (bq b) G'->fT rn bor k e G'=!(f a b,G'))->
  ∃m',m'.length=kk/\qz rn bor k (.nm j1) none (.nm j2) it c e last (xs.map aM) (gM g m acc)=!(gM g m' (acc++xs.flatMap λa=>((ys a).filter (p a)).map (f a)))
 | [],m,acc,hm,_,_,_,_=>#[m,hm,by simp[qz]]
 |a::xs,m,acc,hm,hl,hw,hi,he=>by
  rw[wE,fA]at hl;have q1:(Tg.nm j1).set (aM a) (gM g m acc)=!(gM g (m.set (j1 - g.length) (.dat (aM a))) acc):=qK (kk:=kk) h11 ⋯;have hm1:(m.set (j1 - g.length) (.dat (aM a))).length=kk:=by simpa using hm
  have sees:∀(m:G) (acc:List D),m.length=kk->m[j1 - g.length]?=!(.dat (aM a))->qL g j1 (aM a) (gM g m acc):=λm acc hm hg=>by
   refine#[λi hi=>eX hi,?_]
   have:=bR (g:=g) (m:=m) (acc:=acc) (i:=j1 - g.length) ⋯;rw[show g.length+(j1 - g.length)=j1 by lia]at this
   rw[this,hg]
  have pJ:(m.set (j1 - g.length) (.dat (aM a)))[j1 - g.length]?=!(.dat (aM a)):=by rw[gL ⋯]
  have q2:=hw a b0 _ (sees _ acc hm1 pJ);have Ub:∀(b:β) (m:G) (acc:List D),(m.length=kk/\m[j1 - g.length]?=!(.dat (aM a)))->fW g j1 j2 (aM a) (bq b) (gM g (m.set (j2 - g.length) (.dat (bq b))) acc):=λb m acc hm=>by
   obtain⟨s1,s2⟩:=sees (m.set (j2 - g.length) (.dat (bq b))) acc (by simpa using hm.1) (by rw[fR ⋯];exact hm.2)
   refine#[s1,s2,?_];have:=bR (g:=g) (m:=m.set (j2 - g.length) (.dat (bq b))) (acc:=acc) (i:=j2 - g.length) (by rw[l8];lia)
   rw[show g.length+(j2 - g.length)=j2 by lia]at this
   rw[this,gL (by rw[hm.1];lia)]
  obtain⟨m2,w1,w2⟩:=jc bq (f a) (p a) (λb m=>m.set (j2 - g.length) (.dat (bq b))) (λm=>m.length=kk/\m[j1 - g.length]?=!(.dat (aM a))) (λ_ h=>h.1) bW (λb m h=>#[by simpa using h.1,by rw[fR ⋯];exact h.2]) (ys a) (m.set (j1 - g.length) (.dat (aM a))) acc #[hm1,pJ] ⋯
   (λb _ m acc h=>qK (kk:=kk) h21 (by have:=h.1;lia)) (λb hb m acc h=>hi a b0 b hb _ (Ub b m acc h)) λb hb hp m acc h=>he a b0 b hb hp _ (Ub b m acc h)
  have hf:=List.length_filter_le (p a) (ys a);obtain⟨m3,v1,v2⟩:=tZ aM ys bq p f hn bW h11 h12 h21 h22 iN xs m2 (acc++((ys a).filter (p a)).map (f a)) w1.1 (by rw[fA,d6];lia) (λx hx=>hw x (bP _ hx)) (λx hx=>hi x (bP _ hx)) (λx hx=>he x (bP _ hx))
  refine#[m3,v1,?_];rw[List.map_cons];unfold qz;rw[q1];dsimp only[nP,Tg.iC];rw[q2];dsimp only;rw[w2];dsimp only;rw[v2,wE,rV]
theorem Dn{α β:Type}(xs:List α)(aM:α->D)(ys:α->List β)(bq:β->D)(p:α->β->Bool)(f:α->β->D)(hw1:cN rn bor k false lU g=!(xs.map aM,g1))(hn:nn=g1.length)(h11:g1.length<=j1)(h12:j1<g1.length+kk)(h21:g1.length<=j2)(h22:j2<g1.length+kk)(iN:j1≠j2)(hb1:j1∉bor)(hb2:j2∉bor)(hl:(xs.flatMap ys).length<=lim)
  (hw:∀a∈xs,∀G',qL g1 j1 (aM a) G'->cN rn bor k false it G'=!((ys a).map bq,G'))
  (hi:∀a∈xs,∀b∈ys a,∀G',fW g1 j1 j2 (aM a) (bq b) G'->nP rn bor k c G'=!(p a b,G'))
  (he:∀a∈xs,∀b∈ys a,p a b=true->∀G',fW g1 j1 j2 (aM a) (bq b) G'->fT rn bor k e G'=!(f a b,G')) :
  iD rn bor k nn kk (.nm j1) lU none (.nm j2) it c e g=!(xs.flatMap λa=>((ys a).filter (p a)).map (f a),g1):=by
 subst hn;obtain⟨m',w1,w2⟩:=tZ aM ys bq p f rfl rfl h11 h12 h21 h22 iN xs (List.replicate kk .no) [] ⋯ (by simpa using hl) hw hi he
 unfold iD;rw[show Tg.iC (.nm j1)=false from rfl,hw1]
 dsimp only;rw[eR #[rfl,by simp[Tg.ix,hb1,hb2]],x8,w2]
 dsimp only;have:∀acc,(gM g1 m' acc)[g1.length+kk]?=!(.own acc):=λacc=>by rw[<- w1];exact fV
 rw[this];rw[kT,AX]
theorem yq{α β:Type}(ys:List β):∀xs:List α,(xs.flatMap λ_=>ys).length=xs.length * ys.length
 | []=>by simp
 |_::xs=>by rw[wE,fA,yq ys xs,hV,Nat.succ_mul,Nat.add_comm]
theorem Yx{α β:Type}(xs:List α)(aM:α->D)(ys:List β)(bq:β->D)(p:α->β->Bool)(f:α->β->D)(hw1:cN rn bor k false lU g=!(xs.map aM,g1))(hn:nn=g1.length)(h11:g1.length<=j1)(h12:j1<g1.length+kk)(h21:g1.length<=j2)(h22:j2<g1.length+kk)(iN:j1≠j2)(hb1:j1∉bor)(hb2:j2∉bor)(hl:xs.length * ys.length<=lim)
  (hw:∀a∈xs,∀G',qL g1 j1 (aM a) G'->cN rn bor k false it G'=!(ys.map bq,G'))
  (hi:∀a∈xs,∀b∈ys,∀G',fW g1 j1 j2 (aM a) (bq b) G'->nP rn bor k c G'=!(p a b,G'))
  (he:∀a∈xs,∀b∈ys,p a b=true->∀G',fW g1 j1 j2 (aM a) (bq b) G'->fT rn bor k e G'=!(f a b,G')) :
  iD rn bor k nn kk (.nm j1) lU none (.nm j2) it c e g=!(xs.flatMap λa=>(ys.filter (p a)).map (f a),g1):=Dn xs aM (λ_=>ys) bq p f hw1 hn h11 h12 h21 h22 iN hb1 hb2 (by rw[yq];exact hl) hw hi he
end
theorem rW(F:Nat->~~~0)(a:Nat)(v: ~~~0):((List.range m).map λi=>(F i).map D.int).set a (v.map .int)=(List.range m).map λi=>(if i=a then v else F i).map D.int:=by
 refine AT ⋯ λi h1 h2=>?_
 rw[List.getElem_set];simp only[List.getElem_map,List.getElem_range];by_cases h:a=i
 . subst h;simp
 . rw[eP h,eP λe=>h e.symm]
theorem yt:∀(aj: ~~~5) (F:Nat->~~~0) (c:Nat),(∀x∈aj,Pr m x)->(∀i,(F i).length<=c)->c+aj.length<=900->
  iT (aj.map ∅) ((List.range m).map λi=>(F i).map D.int)=!((List.range m).map λi=>(F i++nb (i:Int) aj).map D.int)
 | [],F,c,_,_,_=>by simp[iT,nb]
 |x::aj,F,c,hx,hF,hc=>by
  obtain⟨a,b,rfl,h1,h2,h3⟩:=hx x b0;obtain⟨a,rfl⟩:∃n:Nat,a=n:=#[a.toNat,by lia]
  obtain⟨b,rfl⟩:∃n:Nat,b=n:=#[b.toNat,by lia]
  rw[hV]at hc;have ga:((List.range m).map λi=>(F i).map D.int)[a]?=!((F a).map D.int):=by rw[l6,Bn ⋯];rfl
  have la:((F a).map D.int).length<1000:=by rw[d6];have:=hF a;lia
  have e1:(F a).map D.int++[.int b]=(F a++[(b:Int)]).map D.int:=by rw[pV];rfl
  have gb:((List.range m).map λi=>(if i=a then F a++[(b:Int)]else F i).map D.int)[b]?=!((F b).map D.int):=by rw[l6,Bn ⋯];simp only[AJ];rw[eP ⋯]
  have lb:((F b).map D.int).length<1000:=by rw[d6];have:=hF b;lia
  have e2:(F b).map D.int++[.int a]=(F b++[(a:Int)]).map D.int:=by rw[pV];rfl
  have q:wW ((List.range m).map λi=>(F i).map D.int) (.tup [.int a,.int b])=!((List.range m).map λi=>(if i=b then F b++[(a:Int)]else if i=a then F a++[(b:Int)]else F i).map D.int):=by
   unfold wW;dsimp only;rw[eR (show (0:Int)<=a/\(0:Int)<=b by lia)]
   simp only[mE,ga,la,CU,e1,rW,gb,lb,e2]
  have ih:=yt aj (λi=>if i=b then F b++[(a:Int)]else if i=a then F a++[(b:Int)]else F i) (c+1) (λx hx'=>hx x (bP _ hx')) (λi=>by
   have:=hF a;have:=hF b;have:=hF i;split
   . simp;lia
   .
    split
    . simp;lia
    .
     lia) ⋯
  have e3:List.map ∅ ([(a:Int),(b:Int)]::aj)=.tup [.int a,.int b]::aj.map λx=>~~~x:=rfl
  rw[e3];unfold iT;rw[q];dsimp only;rw[ih]
  congr 1
  refine i7 λi hi=>?_
  congr 1
  unfold nb;rw[vS];unfold Qz;rw[(eT (a:Int) b).1,(eT (a:Int) b).2];by_cases q1:i=a
  . subst q1;rw[eP ⋯];simp
  .
   by_cases q2:i=b
   . subst q2;rw[eR rfl,eP ⋯];simp
   . rw[eP q2,eP q1,eP ⋯,eP ⋯]
noncomputable def nu:Fx:=#[2,5,[(.rows 0 1 2 3 4)]]
def Rw(m:Nat)(aj: ~~~5):D:=.lst ((List.range m).map λ(i:Nat)=>.lst ((nb (i:Int) aj).map .int))
section
variable{ro fi:Nat}(U:gI fns rn)
include U
theorem RW(m:Nat)(hm:m<=6)(aj: ~~~5)(h:Wb m aj):bA (rn (n+5)) k nu [.int m,.tup (aj.map ∅)]=!(.dat (Rw m aj)):=by
 have q:=yt aj (λ_=>[]) 0 h.tie (λ_=>eD 0) (by have:=h.len;lia)
 have e:(List.range m).map (λi=>List.map D.int ((λ_=>[]) i: ~~~0))=List.replicate m []:=by rw[List.eq_replicate_iff];simp
 rw[e]at q;have h0:(0:Int)<=m/\(m:Int)<=1000:=by lia
 unfold bA nu;simp! [U,q,h0];unfold Rw;simp
omit U in
theorem GK(x:Int)(l: ~~~0):cY .NotIn (.int x) (~~~l)=!((not (decide (x∈l)))):=by
 have h:rR (.int x) (l.map .int)=true:=by simp[rR,gH,gZ,g7]
 simp only[cY,dJ,h,CU]
 congr 2
 rw[Bool.eq_iff_iff];simp[cS]
omit U in
theorem GL:∀(l: ~~~0) ,mZ (l.map .int)=l.zipIdx.map λp=>.tup [.int (p.2:Int),.int p.1]:=by intro l;unfold mZ;rw[List.zipIdx_map,List.map_map];rfl
variable(hR:fns[ro]?=!nu)
include hR
end
def cW(mw ro:Nat):Fx:=#[1,3,[(.expr (.call mw [⇑0])),(.tgt (.tp [1,2]) ⇑0),(.ret (.blt .tuple [(.qw (.comp 3 2 (.nm 4) (.call ro [⇑1,⇑2]) none (.blt .len [⇑4])))]))]]
def yu:Fx:=#[2,2,[(.ret (.comp 2 3 (.tp [3,4]) (.ix ⇑0 ↥1) (!(.cmp .In ⇑1 (.tup [⇑3,⇑4]))) (.bin .Sub (.bin .Add ⇑3 ⇑4) ⇑1)))]]
def cn(m:Nat)(aj: ~~~5): ~~~0:=(List.range m).map λ(i:Nat)=>((nb (i:Int) aj).length:Int)
theorem qW(m:Nat)(aj: ~~~5):(cn m aj).length=m:=by simp[cn]
def jJ(m:Nat)(aj: ~~~5): ~~~0:=(bO (cn m aj)).reverse
theorem Mu(i a b:Int):cY .In (.int i) (.tup [.int a,.int b])=!(decide (a=i)||decide (b=i)):=by
 have h:rR (.int i) [.int a,.int b]=true:=by have:=gZ [a,b];have:=g7 [a,b];simp_all [rR,gH]
 simp only[cY,dJ,h,CU]
 congr 1
 rw[Bool.eq_iff_iff];simp[cS]
section
variable{k n:Nat}{g g1:G}{rn:Nat->Rn}{fns:List Fx}{w wi it ri iw ci mw ro ne:Nat}(U:gI fns rn)
include U
theorem RX(m:Nat)(aj: ~~~5)(h:Wb m aj)(i:Int):bA (rn (n+20)) k yu [W m aj,.int i]=!(.new ((aj.filter (has i)).map λx=>.int (gt x 0+gt x 1 - i))):=by
 have htl:=h.len;have i1:CV (W m aj) (.int 1)=!(.tup (aj.map ∅)):=rfl
 have w:=λn k=>dG (rn:=rn (n+12)) (bor:=[]) (k:=k) (g:=[.dat (W m aj),‹i›]) (g1:=[.dat (W m aj),‹i›]) (kk:=3) (nn:=2) (j1:=3) (j2:=4) (it:=.ix ⇑0 ↥1) (c:=!(.cmp .In ⇑1 (.tup [⇑3,⇑4]))) (e:=.bin .Sub (.bin .Add ⇑3 ⇑4) ⇑1) aj (λx=>.int (gt x 0)) (λx=>.int (gt x 1)) (has i) (λx=>.int (gt x 0+gt x 1 - i)) (by simp! [U,cN,i1,<- h.two]) rfl ⋯ ⋯ ⋯ ⋯ ⋯ ⋯ ⋯ (ao _ ⋯)
  (λx _ G' hG=>by
   have h1:G'[1]?=!‹i›:=hG.1 1 ⋯;simp! [U,nP,h1,hG.2.1,hG.2.2,Mu,ao 2 ⋯];rfl)
  (λx _ _ G' hG=>by
   have h1:G'[1]?=!‹i›:=hG.1 1 ⋯;simp! [U,h1,hG.2.1,hG.2.2])
 unfold bA yu;simp! [U,w]
variable(hW:fns[w]?=!bD)(hWi:fns[wi]?=!(aO w))(hIT:fns[it]?=!(fJ wi))(hRI:fns[ri]?=!qR)(Am:fns[iw]?=!(eo wi it ri))
include hW hWi hIT hRI Am
theorem fX(hR:fns[ro]?=!nu)(hM:fns[mw]?=!(bT iw ci))(m:Nat)(hm:1<=m/\m<=6)(aj: ~~~5)(h:Wb m aj):bA (rn (n+80)) (k+7) (cW mw ro) [W m aj]=!(.dat (~~~(jJ m aj))):=by
 have y:=λn k=>jY (ci:=ci) U hW hWi hIT hRI Am (n:=n) (k:=k) m aj hm h
 have rw_:=λn k=>RW U (n:=n) (k:=k) m hm.2 aj h
 have st:∀s1 s2,Tg.set (.tp [1,2]) (W m aj) [.dat (W m aj),s1,s2]=![.dat (W m aj),‹m›,.dat (.tup (aj.map ∅))]:=λ_ _=>rfl
 have w:∀n k,bS (rn (n+20)) [] (k+1) 3 2 (.nm 4) (.call ro [⇑1,⇑2]) none (.blt .len [⇑4]) [.dat (W m aj),‹m›,.dat (.tup (aj.map ∅))]=!((cn m aj).map .int,[.dat (W m aj),‹m›,.dat (.tup (aj.map ∅))]):=λn k=>by
  unfold cn;rw[List.map_map];refine kU (rn:=rn (n+20)) (bor:=[]) (k:=k+1) (g:=[.dat (W m aj),‹m›,.dat (.tup (aj.map ∅))]) (g1:=[.dat (W m aj),‹m›,.dat (.tup (aj.map ∅))]) (kk:=2) (nn:=3) (j:=4) (List.range m) (λ(i:Nat)=>D.lst ((nb (i:Int) aj).map .int)) (λ(i:Nat)=>.int ((nb (i:Int) aj).length:Int)) (by
   simp! [U,cN,hR,bu (fx:=nu) rfl,rw_];rfl) rfl ⋯ ⋯ ⋯ (ao _ (by rw[AL];lia)) λi hi G' hG=>?_
  simp! [U,hG.2]
 have hl:(cn m aj).length<64:=by rw[qW];lia
 unfold bA cW jJ;simp! [U,hM,az (fx:=bT iw ci) rfl,y,Tg.ix,st,w,dJ,ints_map,hl]
end
def cB(ti:Nat):List Sm:=[(.ite (.cmp .Lt (.call ti [⇑0,↥4]) ⇑5) [(.item 4 ⇑6 (.bin .Add (.ix ⇑4 ⇑6) ↥1)),(.item 4 ⇑7 (.bin .Add (.ix ⇑4 ⇑7) ↥1))] [])]
def cL(ti:Nat):List Sm:=[(.loop (.nm 7) (.eO (.bin .Add ⇑6 ↥1) ⇑2) (cB ti))]
def cA(ti:Nat):Sm:=.set 2 (.bin .Sub ⇑1 (.ix (.lst [↥0,↥0,↥1,↥2,↥0,↥3,↥1,(.bin .Sub ⇑1 ↥1)]) (.call ti [⇑0,↥8])))
def cE(ti:Nat):List Sm:=[(.set 4 (.bin .Mult (.lst [↥0]) ⇑2)),(.set 5 (.bin .Add ↥1 (.call ti [⇑0,↥3]))),(.loop (.nm 6) (.cz ⇑2) (cL ti))]
def cT(ti:Nat):List Sm:=[(.setC 4 (.comp 10 2 (.nm 11) (.cz ⇑2) none (.call ti [⇑0,⇑2])))]
def cI(ti:Nat):Sm:=.ite (.cmp .Eq ⇑3 ↥3) (cT ti) (cE ti)
noncomputable def cJ(ti:Nat):Sm:=.ite (.cmp .Eq ⇑3 ↥1) [(.item 4 (.call ti [⇑0,⇑2]) (.call ti [⇑0,⇑2]))] []
def cK(ti:Nat):Sm:=.ite (.cmp .Eq ⇑3 ↥2) [(.par 8 9 (.call ti [⇑0,⇑2]) (.call ti [⇑0,⇑2])),(.item 4 ⇑8 (.blt .min [(.bin .Sub ⇑2 ↥1),(.bin .Add (.ix ⇑4 ⇑8) ↥1)])),(.item 4 ⇑9 (.blt .max [↥0,(.bin .Sub (.ix ⇑4 ⇑9) ↥1)]))] []
def dR(ti:Nat):Fx:=#[2,10,[(cA ti),(.set 2 (.blt .max [↥1,⇑2])),(.set 3 (.call ti [⇑0,↥4])),(cI ti),(cJ ti),(cK ti),(.ret (.blt .tuple [(.qw ⇑4)]))]]
theorem Mv(N:Nat)(hN:N<=12):nO .Mult (.lst [.int 0]) (.int N)=!(.new ((List.replicate N (0:Int)).map .int)):=by
 match N,hN with
 | 0,_ | 1,_ | 2,_ | 3,_ | 4,_ | 5,_ | 6,_ | 7,_ | 8,_ | 9,_ | 10,_ | 11,_ | 12,_=>rfl
def vR(N:Nat)(t: ~~~0):Prop:=t.length=N/\∀x∈t,0<=x/\x<=(N:Int) - 1
noncomputable def bnd(N i j x:Nat):Int:=if x<i then (N:Int) - 1 else if x=i then (j:Int) - 1 else if x<j then (i:Int)+1 else i
def Bd(N i j:Nat)(t: ~~~0):Prop:=t.length=N/\∀x,x<N->0<=gt t x/\gt t x<=bnd N i j x
theorem vC(t: ~~~0)(i:Nat)(v:Int)(x:Nat)(hx:x<t.length):gt (t.set i v) x=if x=i then v else gt t x:=by
 unfold gt;rw[mE,dE,dE,List.getElem?_set];by_cases e:i=x
 . subst e;rw[eR rfl,eR rfl,eR hx];rfl
 . rw[eP e,eP (λh=>e h.symm)]
theorem vR.of{N:Nat}{t: ~~~0}(h:t.length=N)(hb:∀x,x<N->0<=gt t x/\gt t x<=(N:Int) - 1):vR N t:=#[h,λy hy=>by
 obtain⟨x,hx,e⟩:=v6 hy;have:=hb x ⋯;unfold gt at this;rw[mE,dE,eA hx,Option.getD_some,e]at this;exact this]
theorem vR.gt(h:vR N t)(x:Nat)(hx:x<N):0<=gt t x/\gt t x<=(N:Int) - 1:=by
 have hl:x<t.length:=by rw[h.1];exact hx
 have:=h.2 t[x] (oP hl);unfold Ev.gt;rw[mE,dE,eA hl,Option.getD_some];exact this
theorem vR.set{N:Nat}{t: ~~~0}(h:vR N t)(i:Nat)(v:Int)(hv:0<=v/\v<=(N:Int) - 1):vR N (t.set i v):=.of (by rw[l8];exact h.1) λx hx=>by
 rw[vC _ _ _ _ (by rw[h.1];exact hx)]
 split
 . exact hv
 . exact h.gt x hx
theorem Bd.mono(h:Bd N i j t)(hij:i<j):Bd N i (j+1) t:=#[h.1,λx hx=>#[(h.2 x hx).1,CM (h.2 x hx).2 (by unfold bnd;split <;> (try split) <;> (try split) <;> (try split) <;> lia)]]
theorem Bd.put(h:Bd N i j t)(hij:i<j)(hj:j<N):Bd N i (j+1) ((t.set i (gt t i+1)).set j (gt (t.set i (gt t i+1)) j+1)):=by
 refine#[by rw[l8,l8,h.1],λx hx=>?_]
 have h0:=h.1;rw[vC _ _ _ _ (by rw[l8];lia),vC _ _ _ _ ⋯,vC _ _ _ _ ⋯]
 have h1:=h.2 x hx;have h2:=h.2 i ⋯;have h3:=h.2 j hj;unfold bnd at *;by_cases e1:x=j
 . subst e1;rw[eR rfl,eP ⋯,eP ⋯,eP ⋯,eR ⋯];rw[eP ⋯,eP ⋯,eP ⋯]at h3;lia
 .
  rw[eP e1];by_cases e2:x=i
  . subst e2;rw[eR rfl,eP ⋯,eR rfl];rw[eP ⋯,eR rfl]at h1;lia
  .
   rw[eP e2];refine#[h1.1,CM h1.2 ?_];split
   . lia
   . split <;> split <;> lia
theorem Bd.next{N i:Nat}{t: ~~~0}(h:Bd N i N t):Bd N (i+1) (i+2) t:=#[h.1,λx hx=>#[(h.2 x hx).1,CM (h.2 x hx).2 (by
 unfold bnd;by_cases e1:x<i
 . rw[eR e1,eR ⋯];lia
 .
  by_cases e2:x=i
  . rw[eP e1,eR e2,eR ⋯];lia
  .
   rw[eP e1,eP e2,eR hx,eP ⋯];split <;> (try split) <;> lia)]]
section
variable{k n:Nat}{g g1:G}{rn:Nat->Rn}{fns:List Fx}{ti:Nat}(U:gI fns rn)(hT:fns[ti]?=!aV)
include U hT
noncomputable def fC(s:Int)(fl:Bool)(a1 a2 a3 a4 a5 a6 a7 a8 a9:Slot):G:=[St s fl,a1,a2,a3,a4,a5,a6,a7,a8,a9]
theorem cBody(s:Int)(fl:Bool)(N:Nat)(hN:1<=N/\N<=12)(t: ~~~0)(i j:Nat)(ht:Bd N i j t)(hij:i<j)(hj:j<N)(r:Int)(a1 a3:Slot):∃(t': ~~~0) (s':Int),Bd N i (j+1) t'/\(rn (n+97)).b [0] (k+1) (cB ti) (fC s fl a1 ‹N› a3 (.own (t.map .int)) ‹r› ‹i› ‹j› .no .no)=!(.nx,fC s' fl a1 ‹N› a3 (.own (t'.map .int)) ‹r› ‹i› ‹j› .no .no):=by
 have h0:=ht.1;obtain⟨v,s1,v1,v2,q1⟩:=bE U (n:=n+74) (k:=k) (g:=fC s fl a1 ‹N› a3 (.own (t.map .int)) ‹r› ‹i› ‹j› .no .no) (i:=0) (s:=s) (fl:=fl) (m:=4) rfl ⋯;have lG:aX (rn (n+94)) aV k [.var 0,‹4›] [St s fl,a1,‹N›,a3,.own (t.map .int),‹r›,‹i›,‹j›,.no,.no]=!(‹v›,[St s1 fl,a1,‹N›,a3,.own (t.map .int),‹r›,‹i›,‹j›,.no,.no]):=q1;by_cases c:v<r
 .
  have l1:L2.rL t.length (i:Int)=!i:=jX ⋯;have l2:L2.rL t.length (j:Int)=!j:=jX ⋯;have g1:=gB (t:=t) (i:=(i:Int)) ⋯;have g2:=gB (t:=t.set i (gt t i+1)) (i:=(j:Int)) (by rw[l8];lia)
  rw[A4]at g2;refine#[(t.set i (gt t i+1)).set j (gt (t.set i (gt t i+1)) j+1),s1,ht.put hij hj,?_];rw[A4,A4];unfold cB fC;simp! [U,hT,lG,c,g1,g2,l1,l2]
 . refine#[t,s1,ht.mono hij,?_];unfold cB fC;simp! [U,hT,lG,c]
theorem Yy(s:Int)(fl:Bool)(N:Nat)(hN:1<=N/\N<=12)(t: ~~~0)(i:Nat)(ht:Bd N i (i+1) t)(hi:i<N)(r:Int)(a1 a3 a7:Slot):∃(t': ~~~0) (s':Int) (b7:Slot),Bd N i N t'/\(rn (n+98)).b [0] (k+1) (cL ti) (fC s fl a1 ‹N› a3 (.own (t.map .int)) ‹r› ‹i› a7 .no .no)=!(.nx,fC s' fl a1 ‹N› a3 (.own (t'.map .int)) ‹r› ‹i› b7 .no .no):=by
 obtain⟨g',⟨j,hj,hl,t',s',b7,h1,rfl⟩,h3⟩:=bM (T:=.nm 7) (b:=(rn (n+97)).b [0] (k+1) (cB ti)) (λ(j:Nat)=>D.int ((i:Int)+1+(j:Int)))
  (I:=λl g=>∃j,i+1+j<=N/\l=List.range' j (N - (i+1) - j)/\∃(t': ~~~0) (s':Int) (b7:Slot),Bd N i (i+1+j) t'/\g=fC s' fl a1 ‹N› a3 (.own (t'.map .int)) ‹r› ‹i› b7 .no .no)
  (step:=λa l g h=>by
   obtain⟨j,hj,hl,t',s',b7,h1,rfl⟩:=h;have hn:N - (i+1) - j≠0:=λe=>by rw[e]at hl;cases hl
   obtain⟨p,hp⟩:∃p,N - (i+1) - j=p+1:=#[_,(Nat.succ_pred hn).symm];rw[hp,Cf]at hl;injection hl with e1 e2;subst e1 e2;obtain⟨t2,s2,h4,h5⟩:=cBody U hT (n:=n) (k:=k) s' fl N hN t' i (i+1+a) h1 ⋯ ⋯ r a1 a3;have e:((i+1+a:Nat):Int)=(i:Int)+1+(a:Int):=by lia
   rw[e]at h5;exact#[_,_,rfl,h5,a+1,by lia,by congr 1;lia,t2,s2,_,h4,rfl]) (List.range (N - (i+1))) (fC s fl a1 ‹N› a3 (.own (t.map .int)) ‹r› ‹i› a7 .no .no) #[0,by lia,x4,t,s,a7,ht,rfl]
 have h1:Bd N i N t':=by
  have:i+1+j=N:=by have:=congrArg List.length hl;simp at this;lia
  rwa [this]at h1
 refine#[t',s',b7,h1,?_];have e:((N:Int) - ((i:Int)+1)).toNat=N - (i+1):=by lia
 generalize hb:(rn (n+97)).b [0] (k+1) (cB ti)=bb at h3;unfold fC at h3 ⊢
 unfold cL;simp! [U,Tg.ix,Tg.iC,cN,aI ((i:Int)+1) ⋯,aI N ⋯,e,bQ,hb,h3]
theorem cLoop(s:Int)(fl:Bool)(N:Nat)(hN:1<=N/\N<=12)(t: ~~~0)(ht:Bd N 0 1 t)(r:Int)(a1 a3:Slot):∃(t': ~~~0) (s':Int) (b6 b7:Slot),vR N t'/\aA (rn (n+98)) [0] (k+1) (.loop (.nm 6) (.cz ⇑2) (cL ti)) (fC s fl a1 ‹N› a3 (.own (t.map .int)) ‹r› .no .no .no .no)=!(.nx,fC s' fl a1 ‹N› a3 (.own (t'.map .int)) ‹r› b6 b7 .no .no):=by
 obtain⟨g',⟨j,hj,hl,t',s',b6,b7,h1,rfl⟩,h3⟩:=bM (T:=.nm 6) (b:=(rn (n+98)).b [0] (k+1) (cL ti)) (λ(j:Nat)=>D.int (j:Int))
  (I:=λl g=>∃j,j<=N/\l=List.range' j (N - j)/\∃(t': ~~~0) (s':Int) (b6 b7:Slot),Bd N j (j+1) t'/\g=fC s' fl a1 ‹N› a3 (.own (t'.map .int)) ‹r› b6 b7 .no .no)
  (step:=λa l g h=>by
   obtain⟨j,hj,hl,t',s',b6,b7,h1,rfl⟩:=h;have hn:N - j≠0:=λe=>by rw[e]at hl;cases hl
   obtain⟨p,hp⟩:∃p,N - j=p+1:=#[_,(Nat.succ_pred hn).symm];rw[hp,Cf]at hl;injection hl with e1 e2;subst e1 e2;obtain⟨t2,s2,c7,h4,h5⟩:=Yy U hT (n:=n) (k:=k) s' fl N hN t' a h1 ⋯ r a1 a3 b7;exact#[_,_,rfl,h5,a+1,by lia,by congr 1;lia,t2,s2,_,_,h4.next,rfl]) (List.range N) (fC s fl a1 ‹N› a3 (.own (t.map .int)) ‹r› .no .no .no .no) #[0,by lia,x4,t,s,.no,.no,ht,rfl]
 have h1:vR N t':=.of h1.1 λx hx=>by
  have:j=N:=by have:=congrArg List.length hl;simp at this;lia
  have h2:=h1.2 x hx;unfold bnd at h2
  rwa [eR ⋯]at h2
 refine#[t',s',b6,b7,h1,?_];have hr:bQ 0 N=(List.range N).map λ(x:Nat)=>D.int (x:Int):=by unfold bQ;exact i7 λx _=>by rw[CS]
 generalize hb:(rn (n+98)).b [0] (k+1) (cL ti)=bb at h3;unfold fC at h3 ⊢
 simp! [U,Tg.ix,Tg.iC,cN,aI N ⋯,hr,hb,h3]
end
section
variable{k n:Nat}{g g1:G}{rn:Nat->Rn}{fns:List Fx}{ti:Nat}(U:gI fns rn)(hT:fns[ti]?=!aV)
include U hT
theorem cE1(s:Int)(fl:Bool)(v:Int)(a1 a3:Slot)(z:List D)(om:nO .Mult (.lst [.int 0]) (.int v)=!(.new z)):aA (rn (n+98)) [0] (k+1) (.set 4 (.bin .Mult (.lst [↥0]) ⇑2)) (fC s fl a1 ‹v› a3 .no .no .no .no .no .no)=!(.nx,fC s fl a1 ‹v› a3 (.own z) .no .no .no .no .no):=by unfold fC;simp! [U,ao 1 ⋯,om]
theorem cE2(s:Int)(fl:Bool)(N:Nat)(a1 a3:Slot)(z:List D):∃(r s1:Int),aA (rn (n+98)) [0] (k+1) (.set 5 (.bin .Add ↥1 (.call ti [⇑0,↥3]))) (fC s fl a1 ‹N› a3 (.own z) .no .no .no .no .no)=!(.nx,fC s1 fl a1 ‹N› a3 (.own z) (.dat (.int (1+r))) .no .no .no .no):=by obtain⟨r,s1,r1,r2,q1⟩:=bE U (n:=n+76) (k:=k) (g:=fC s fl a1 ‹N› a3 (.own z) .no .no .no .no .no) (i:=0) (s:=s) (fl:=fl) (m:=3) rfl ⋯;have lG:aX (rn (n+96)) aV k [.var 0,‹3›] [St s fl,a1,‹N›,a3,.own z,.no,.no,.no,.no,.no]=!(‹r›,[St s1 fl,a1,‹N›,a3,.own z,.no,.no,.no,.no,.no]):=q1;refine#[r,s1,?_];unfold fC;simp! [U,hT,lG]
theorem cElse(s:Int)(fl:Bool)(N:Nat)(hN:1<=N/\N<=12)(a1 a3:Slot):∃(t': ~~~0) (s':Int) (b5 b6 b7:Slot),vR N t'/\(rn (n+99)).b [0] (k+1) (cE ti) (fC s fl a1 ‹N› a3 .no .no .no .no .no .no)=!(.nx,fC s' fl a1 ‹N› a3 (.own (t'.map .int)) b5 b6 b7 .no .no):=by
 obtain⟨z,hz,om⟩:∃z:List Int,Bd N 0 1 z/\nO .Mult (.lst [.int 0]) (.int N)=!(.new (z.map .int)):=#[_,#[kS,λx hx=>by
  have:gt (List.replicate N (0:Int)) x=0:=by unfold gt;simp[hx]
  rw[this];unfold bnd;split <;> (try split) <;> (try split) <;> lia],Mv N hN.2]
 have e1:=cE1 U hT (n:=n) (k:=k) s fl (N:Int) a1 a3 _ om;obtain⟨r,s1,e2⟩:=cE2 U hT (n:=n) (k:=k) s fl N a1 a3 (z.map .int);obtain⟨t',s',b6,b7,h1,e3⟩:=cLoop U hT (n:=n) (k:=k) s1 fl N hN z hz (1+r) a1 a3;refine#[t',s',.dat (.int (1+r)),b6,b7,h1,?_];unfold cE;rw[U.b,au e1,au e2,au e3];simp only[cP]
end
section
variable{rn:Rn}{bor:List Nat}{k:Nat}
theorem GP(h:i<g.length):(gM g m acc).set i s=gM (g.set i s) m acc:=by unfold gM;rw[Co _ _ h]
theorem yw{i j last kk:Nat}{fl:Bool}{e:Ex}{P:D->Prop}(g:G)(hi:i<g.length)(bW:last=g.length+kk)(hj1:g.length<=j)(hj2:j<g.length+kk)
  (he:∀s G',G'[i]?=!(St s fl)->(∀i',i'≠i->i'<g.length->G'[i']?=g[i']?)->∃d s',P d/\fT rn bor k e G'=!(d,G'.set i (St s' fl))) :
  ∀(items:List D) (s:Int) (m:G) (acc:List D),m.length=kk->acc.length+items.length<=lim->∃ds s' m',m'.length=kk/\ds.length=items.length/\(∀d∈ds,P d)/\zS rn bor k (.nm j) last none e items (gM (g.set i (St s fl)) m acc)=!(gM (g.set i (St s' fl)) m' (acc++ds))
 | [],s,m,acc,hm,_=>#[[],s,m,hm,rfl,(λ_ h=>nomatch h),by rw[n0];rfl]
 |x::items,s,m,acc,hm,hl=>by
  rw[hV]at hl;have hg:(g.set i (St s fl)).length=g.length:=l8;have q1:Tg.set (.nm j) x (gM (g.set i (St s fl)) m acc)=!(gM (g.set i (St s fl)) (m.set (j - g.length) (.dat x)) acc):=by
   show some ((gM (g.set i (St s fl)) m acc).set j (.dat x))=_;have:=dQ (g:=g.set i (St s fl)) (m:=m) (acc:=acc) (i:=j - g.length) (s:=.dat x) ⋯;rw[hg,show g.length+(j - g.length)=j by lia]at this
   rw[this]
  obtain⟨d,s1,hd,q2⟩:=he s (gM (g.set i (St s fl)) (m.set (j - g.length) (.dat x)) acc) (by rw[eX ⋯,gL hi]) λi' h1 h2=>by rw[eX ⋯,fR (wP h1)]
  rw[GP ⋯,List.set_set]at q2;have hm':(m.set (j - g.length) (Slot.dat x)).length=kk:=by rw[l8];exact hm
  obtain⟨ds,s',m',w1,w2,w3,w4⟩:=yw g hi bW hj1 hj2 he items s1 (m.set (j - g.length) (.dat x)) (acc++[d]) hm' (by rw[fA,tJ];lia)
  refine#[d::ds,s',m',w1,by rw[hV,hV,w2],λy hy=>(eJ.mp hy).elim (λe=>e▸hd) (w3 y),?_]
  have pJ:(g.set i (St s1 fl)).length=g.length:=l8;have q4:(gM (g.set i (St s1 fl)) (m.set (j - g.length) (.dat x)) acc)[last]?=!(.own acc):=by rw[bW,<- hm',<- pJ];exact fV
  have q5:(gM (g.set i (St s1 fl)) (m.set (j - g.length) (.dat x)) acc).set last (.own (acc++[d]))=gM (g.set i (St s1 fl)) (m.set (j - g.length) (.dat x)) (acc++[d]):=by rw[bW,<- hm',<- pJ];exact iZ
  unfold zS;rw[q1];dsimp only[nP];rw[q2];dsimp only;rw[q4];dsimp only;rw[eR ⋯,q5,w4,rV];rfl
theorem GQ{i j nn kk:Nat}{fl:Bool}{it e:Ex}{P:D->Prop}(g:G)(s:Int)(hg:g[i]?=!(St s fl))(items:List D)(hw:cN rn bor k false it g=!(items,g))(hn:nn=g.length)(hj1:g.length<=j)(hj2:j<g.length+kk)(hb:j∉bor)(hl:items.length<=lim)
  (he:∀s G',G'[i]?=!(St s fl)->(∀i',i'≠i->i'<g.length->G'[i']?=g[i']?)->∃d s',P d/\fT rn bor k e G'=!(d,G'.set i (St s' fl))) :
  ∃ds s',ds.length=items.length/\(∀d∈ds,P d)/\bS rn bor k nn kk (.nm j) it none e g=!(ds,g.set i (St s' fl)):=by
 subst hn;have hi:=(dS.mp hg).1;obtain⟨ds,s',m',w1,w2,w3,w4⟩:=yw g hi rfl hj1 hj2 he items s (List.replicate kk .no) [] ⋯ (by simpa using hl)
 have e0:g.set i (St s fl)=g:=by
  apply List.ext_getElem?;intro a;by_cases h:a=i
  . subst h;rw[gL hi,hg]
  . rw[fR (wP h)]
 rw[e0]at w4;refine#[ds,s',w2,w3,?_];have pJ:(g.set i (St s' fl)).length=g.length:=l8;have q4:(gM (g.set i (St s' fl)) m' ([]++ds))[g.length+kk]?=!(.own ds):=by have:=fV (g:=g.set i (St s' fl)) (m:=m') (acc:=[]++ds);rw[pJ,w1]at this;exact this
 have q5:(gM (g.set i (St s' fl)) m' ([]++ds)).take g.length=g.set i (St s' fl):=by rw[<- pJ];exact kT
 unfold bS;rw[show Tg.iC (.nm j)=false from rfl,hw]
 dsimp only;rw[eR #[rfl,by simpa [Tg.ix]using hb],x8,w4]
 dsimp only;rw[q4];rw[q5]
end
section
variable{k n:Nat}{g g1:G}{rn:Nat->Rn}{fns:List Fx}{ti:Nat}(U:gI fns rn)(hT:fns[ti]?=!aV)
include U hT
theorem cThen(s:Int)(fl:Bool)(N:Nat)(hN:1<=N/\N<=12)(a1 a3:Slot):∃(t': ~~~0) (s':Int),vR N t'/\(rn (n+99)).b [0] (k+1) (cT ti) (fC s fl a1 ‹N› a3 .no .no .no .no .no .no)=!(.nx,fC s' fl a1 ‹N› a3 (.own (t'.map .int)) .no .no .no .no .no):=by
 obtain⟨ds,s',h1,h2,h3⟩:=GQ (rn:=rn (n+98)) (bor:=[0]) (k:=k+1) (i:=0) (j:=11) (nn:=10) (kk:=2) (fl:=fl) (it:=.cz ⇑2) (e:=.call ti [⇑0,⇑2]) (P:=λd=>∃x:Int,(0<=x/\x<=(N:Int) - 1)/\d=.int x) (fC s fl a1 ‹N› a3 .no .no .no .no .no .no) s rfl (bQ 0 N) (by unfold fC;simp! [U,cN,aI N ⋯]) rfl (show 10<=11 by decide) (show 11<10+2 by decide) ⋯ (ao _ (by unfold bQ;simp;lia))
  (λs G' h0 hG=>by
   have h2:G'[2]?=!‹N›:=hG 2 ⋯ (show 2<10 by decide)
   obtain⟨v,s1,v1,v2,q1⟩:=bE U (n:=n+77) (k:=k) (g:=G') (i:=0) (s:=s) (fl:=fl) (m:=(N:Int)) h0 ⋯;have lG:aX (rn (n+97)) aV k [.var 0,‹N›] G'=!(‹v›,G'.set 0 (St s1 fl)):=q1;refine#[.int v,s1,#[v,#[v1,by lia],rfl],?_]
   simp! [U,hT,h0,h2,lG])
 have hds:∀ds:List D,(∀d∈ds,∃x:Int,(0<=x/\x<=(N:Int) - 1)/\d=.int x)->∃t:List Int,(∀x∈t,0<=x/\x<=(N:Int) - 1)/\ds=t.map .int:=λds=>by
  induction ds with
  |nil=>exact λ_=>#[[],(λx hx=>nomatch hx),rfl]
  |cons d l ih=>
   intro h;obtain⟨x,hx,rfl⟩:=h d b0;obtain⟨t,ht,rfl⟩:=ih λd hd=>h d (bP _ hd)
   exact#[x::t,List.forall_mem_cons.mpr #[hx,ht],rfl]
 obtain⟨t,ht,rfl⟩:=hds ds h2;refine#[t,s',#[by rw[d6]at h1;rw[h1];unfold bQ;simp,ht],?_]
 have h3':bS (rn (n+98)) [0] (k+1) 10 2 (.nm 11) (.cz ⇑2) none (.call ti [⇑0,⇑2]) (fC s fl a1 ‹N› a3 .no .no .no .no .no .no)=!(t.map .int,fC s' fl a1 ‹N› a3 .no .no .no .no .no .no):=h3;have e1:aA (rn (n+98)) [0] (k+1) (.setC 4 (.comp 10 2 (.nm 11) (.cz ⇑2) none (.call ti [⇑0,⇑2]))) (fC s fl a1 ‹N› a3 .no .no .no .no .no .no)=!(.nx,fC s' fl a1 ‹N› a3 (.own (t.map .int)) .no .no .no .no .no):=by simp only[aA,h3'];simp[fC]
 unfold cT;rw[U.b,au e1];simp only[cP]
theorem cMid(s:Int)(fl:Bool)(N:Nat)(hN:1<=N/\N<=12)(w:Int)(a1:Slot):∃(t': ~~~0) (s':Int) (b5 b6 b7:Slot),vR N t'/\aA (rn (n+99)) [0] (k+1) (cI ti) (fC s fl a1 ‹N› ‹w› .no .no .no .no .no .no)=!(.nx,fC s' fl a1 ‹N› ‹w› (.own (t'.map .int)) b5 b6 b7 .no .no):=by
 by_cases c:w=3
 .
  obtain⟨t,s',h1,h2⟩:=cThen U hT (n:=n) (k:=k) s fl N hN a1 ‹w›;refine#[t,s',.no,.no,.no,h1,?_];unfold cI;generalize cT ti=bb at h2 ⊢
  generalize cE ti=cc;rw[U.b]at h2;unfold fC at h2 ⊢
  subst c;simp! [U,h2]
 .
  obtain⟨t,s',b5,b6,b7,h1,h2⟩:=cElse U hT (n:=n) (k:=k) s fl N hN a1 ‹w›;refine#[t,s',b5,b6,b7,h1,?_];unfold cI;generalize cT ti=bb;generalize cE ti=cc at h2 ⊢
  rw[U.b]at h2;unfold fC at h2 ⊢
  simp! [U,c,h2]
theorem cJay(s:Int)(fl:Bool)(N:Nat)(hN:1<=N/\N<=12)(t: ~~~0)(ht:vR N t)(w:Int)(a1 a5 a6 a7:Slot):∃(t': ~~~0) (s':Int),vR N t'/\aA (rn (n+99)) [0] (k+1) (cJ ti) (fC s fl a1 ‹N› ‹w› (.own (t.map .int)) a5 a6 a7 .no .no)=!(.nx,fC s' fl a1 ‹N› ‹w› (.own (t'.map .int)) a5 a6 a7 .no .no):=by
 have h0:=ht.1;by_cases c:w=1
 .
  subst c;obtain⟨p,s1,p1,p2,q1⟩:=bE U (n:=n+77) (k:=k) (g:=fC s fl a1 ‹N› ‹1› (.own (t.map .int)) a5 a6 a7 .no .no) (i:=0) (s:=s) (fl:=fl) (m:=(N:Int)) rfl ⋯;have lG:aX (rn (n+97)) aV k [.var 0,‹N›] [St s fl,a1,‹N›,‹1›,.own (t.map .int),a5,a6,a7,.no,.no]=!(‹p›,[St s1 fl,a1,‹N›,‹1›,.own (t.map .int),a5,a6,a7,.no,.no]):=q1;obtain⟨q,s2,p3,p4,q2⟩:=bE U (n:=n+77) (k:=k) (g:=fC s1 fl a1 ‹N› ‹1› (.own (t.map .int)) a5 a6 a7 .no .no) (i:=0) (s:=s1) (fl:=fl) (m:=(N:Int)) rfl ⋯;have uK:aX (rn (n+97)) aV k [.var 0,‹N›] [St s1 fl,a1,‹N›,‹1›,.own (t.map .int),a5,a6,a7,.no,.no]=!(‹q›,[St s2 fl,a1,‹N›,‹1›,.own (t.map .int),a5,a6,a7,.no,.no]):=q2;obtain⟨pn,rfl⟩:∃pn:Nat,p=pn:=#[p.toNat,by lia]
  obtain⟨qn,rfl⟩:∃qn:Nat,q=qn:=#[q.toNat,by lia]
  have l1:L2.rL t.length (pn:Int)=!pn:=jX ⋯;have l2:L2.rL t.length (qn:Int)=!qn:=jX ⋯
  first
  |refine#[t.set qn pn,s2,ht.set _ _ ⋯,?_]
   rw[A4];unfold cJ fC;simp! [U,hT,lG,uK,l1,l2]
   done
  |refine#[t.set pn qn,s2,ht.set _ _ ⋯,?_]
   rw[A4];unfold cJ fC;simp! [U,hT,lG,uK,l1,l2]
 . refine#[t,s,ht,?_];unfold cJ fC;simp! [U,c]
theorem cKay(s:Int)(fl:Bool)(N:Nat)(hN:1<=N/\N<=12)(t: ~~~0)(ht:vR N t)(w:Int)(a1 a5 a6 a7:Slot):∃(t': ~~~0) (s':Int) (b8 b9:Slot),vR N t'/\aA (rn (n+99)) [0] (k+1) (cK ti) (fC s fl a1 ‹N› ‹w› (.own (t.map .int)) a5 a6 a7 .no .no)=!(.nx,fC s' fl a1 ‹N› ‹w› (.own (t'.map .int)) a5 a6 a7 b8 b9):=by
 have h0:=ht.1;by_cases c:w=2
 .
  subst c;obtain⟨p,s1,p1,p2,q1⟩:=bE U (n:=n+77) (k:=k) (g:=fC s fl a1 ‹N› ‹2› (.own (t.map .int)) a5 a6 a7 .no .no) (i:=0) (s:=s) (fl:=fl) (m:=(N:Int)) rfl ⋯;have lG:aX (rn (n+97)) aV k [.var 0,‹N›] [St s fl,a1,‹N›,‹2›,.own (t.map .int),a5,a6,a7,.no,.no]=!(‹p›,[St s1 fl,a1,‹N›,‹2›,.own (t.map .int),a5,a6,a7,.no,.no]):=q1;obtain⟨q,s2,p3,p4,q2⟩:=bE U (n:=n+77) (k:=k) (g:=fC s1 fl a1 ‹N› ‹2› (.own (t.map .int)) a5 a6 a7 .no .no) (i:=0) (s:=s1) (fl:=fl) (m:=(N:Int)) rfl ⋯;have uK:aX (rn (n+97)) aV k [.var 0,‹N›] [St s1 fl,a1,‹N›,‹2›,.own (t.map .int),a5,a6,a7,.no,.no]=!(‹q›,[St s2 fl,a1,‹N›,‹2›,.own (t.map .int),a5,a6,a7,.no,.no]):=q2;obtain⟨pn,rfl⟩:∃pn:Nat,p=pn:=#[p.toNat,by lia]
  obtain⟨qn,rfl⟩:∃qn:Nat,q=qn:=#[q.toNat,by lia]
  have l1:L2.rL t.length (pn:Int)=!pn:=jX ⋯;have l2:L2.rL t.length (qn:Int)=!qn:=jX ⋯;have g1:=gB (t:=t) (i:=(pn:Int)) ⋯;have h3:=ht.gt pn ⋯;obtain⟨v,hvr,hv⟩:∃v:Int,(0<=v/\v<=(N:Int) - 1)/\jH .min [.int ((N:Int) - 1),.int (gt t pn+1)]=!‹v›:=#[_,by split <;> lia,Dh _ _]
  have ht2:=ht.set pn v hvr;have h4:=ht2.gt qn ⋯;have g2:=gB (t:=t.set pn v) (i:=(qn:Int)) (by rw[l8];lia)
  rw[A4]at g2;obtain⟨x,hxr,hx⟩:∃x:Int,(0<=x/\x<=(N:Int) - 1)/\jH .max [.int 0,.int (gt (t.set pn v) qn - 1)]=!‹x›:=#[_,by split <;> lia,vn _ _]
  refine#[(t.set pn v).set qn x,s2,‹pn›,‹qn›,ht2.set qn x hxr,?_];rw[A4,A4];unfold cK fC;simp! [U,hT,lG,uK,l1,l2,g1,hv,g2,hx]
 . refine#[t,s,.no,.no,ht,?_];unfold cK fC;simp! [U,c]
end
section
variable{k n:Nat}{g g1:G}{rn:Nat->Rn}{fns:List Fx}{ti:Nat}(U:gI fns rn)(hT:fns[ti]?=!aV)
include U hT
theorem vD{i:Nat}{s:Int}{fl:Bool}(mo:Int)(hmo:4<=mo/\mo<=12)(hi:g[i]?=!(St s fl)):∃(t: ~~~0) (s':Int),((1<=t.length/\(t.length:Int)<=mo)/\vR t.length t/\t.Pairwise (· ≥ ·))/\aX (rn (n+100)) (dR ti) (k+1) [.var i,‹mo›] g=!(.dat (~~~t),g.set i (St s' fl)):=by
 obtain⟨r,s1,r1,r2,q1⟩:=bE U (g:=fC s fl ‹mo› .no .no .no .no .no .no .no .no) (i:=0) (m:=8) rfl ⋯;have lG:aX (rn (n+96)) aV k [.var 0,‹8›] [St s fl,‹mo›,.no,.no,.no,.no,.no,.no,.no,.no]=!(‹r›,[St s1 fl,‹mo›,.no,.no,.no,.no,.no,.no,.no,.no]):=q1;obtain⟨x,hx,ex⟩:=RM (l:=[D.int 0,.int 0,.int 1,.int 2,.int 0,.int 3,.int 1,.int (mo - 1)]) #[r1,r2];obtain⟨v,hv,rfl⟩:∃v:Int,(0<=v/\v<=mo - 1)/\x=.int v:=by simp only[eJ,nV,A9]at hx;rcases hx with rfl |rfl |rfl |rfl |rfl |rfl |rfl |rfl <;> exact#[_,by lia,rfl]
 obtain⟨N,hN,h0,h1⟩:∃N:Nat,mo - v=(N:Int)/\(N:Int)<=mo/\(1<=N/\N<=12):=#[(mo - v).toNat,by lia,by lia,by lia]
 have e1:aA (rn (n+99)) [0] (k+1) (cA ti) (fC s fl ‹mo› .no .no .no .no .no .no .no .no)=!(.nx,fC s1 fl ‹mo› ‹N› .no .no .no .no .no .no .no):=by unfold cA fC;simp! [U,hT,lG,ex,ao 8 ⋯,hN]
 have bm:jH .max [.int 1,.int N]=!‹N›:=by
  rw[vn]
  congr 3
  split <;> lia
 have e2:aA (rn (n+99)) [0] (k+1) (.set 2 (.blt .max [↥1,⇑2])) (fC s1 fl ‹mo› ‹N› .no .no .no .no .no .no .no)=!(.nx,fC s1 fl ‹mo› ‹N› .no .no .no .no .no .no .no):=by unfold fC;simp! [U,bm]
 obtain⟨w,s2,w1,w2,q2⟩:=bE U (g:=fC s1 fl ‹mo› ‹N› .no .no .no .no .no .no .no) (i:=0) (m:=4) rfl ⋯;have uK:aX (rn (n+98)) aV k [.var 0,‹4›] [St s1 fl,‹mo›,‹N›,.no,.no,.no,.no,.no,.no,.no]=!(‹w›,[St s2 fl,‹mo›,‹N›,.no,.no,.no,.no,.no,.no,.no]):=q2;have e3:aA (rn (n+99)) [0] (k+1) (.set 3 (.call ti [⇑0,↥4])) (fC s1 fl ‹mo› ‹N› .no .no .no .no .no .no .no)=!(.nx,fC s2 fl ‹mo› ‹N› ‹w› .no .no .no .no .no .no):=by unfold fC;simp! [U,hT,uK]
 obtain⟨t1,s3,b5,b6,b7,l1,e4⟩:=cMid U hT s2 fl N h1 w ‹mo›;obtain⟨t2,s4,l2,e5⟩:=cJay U hT s3 fl N h1 t1 l1 w ‹mo› b5 b6 b7;obtain⟨t3,s5,b8,b9,l3,e6⟩:=cKay U hT s4 fl N h1 t2 l2 w ‹mo› b5 b6 b7;have l30:=l3.1;have hl:t3.length<64:=by lia
 have e7:aA (rn (n+99)) [0] (k+1) (.ret (.blt .tuple [(.qw ⇑4)])) (fC s5 fl ‹mo› ‹N› ‹w› (.own (t3.map .int)) b5 b6 b7 b8 b9)=!(.rt (.dat (~~~(bO t3).reverse)),fC s5 fl ‹mo› ‹N› ‹w› (.own (t3.map .int)) b5 b6 b7 b8 b9):=by unfold fC;simp! [U,dJ,ints_map,hl]
 refine#[(bO t3).reverse,s5,?_,?_]
 .
  have hll:(bO t3).reverse.length=N:=by rw[CF,(aZ t3).length_eq,l30]
  rw[hll];exact#[#[h1.1,h0],#[hll,λx hx=>l3.2 x ((aZ t3).mem_iff.mp (List.mem_reverse.mp hx))],AC.mpr (dc t3)]
 .
  have hp:fB (dR ti).n [St s fl,‹mo›]=fC s fl ‹mo› .no .no .no .no .no .no .no .no:=rfl;have body:(rn (n+100)).b [0] (k+1) (dR ti).body (fC s fl ‹mo› .no .no .no .no .no .no .no .no)=!(.rt (.dat (~~~(bO t3).reverse)),fC s5 fl ‹mo› ‹N› ‹w› (.own (t3.map .int)) b5 b6 b7 b8 b9):=by unfold dR;rw[U.b,au e1,au e2,au e3,au e4,au e5,au e6];unfold cP;rw[e7]
  unfold aX;simp only[vars,dF,hi,List.map_cons,List.map_nil];rw[hp,body];rfl
end
def gF:PySem.Str:=PySem.Str.ofString "odd"
def iH:PySem.Str:=PySem.Str.ofString "much"
noncomputable def bw(ic ci:Nat):Fx:=#[1,1,[(.ite (.not (.call ic [⇑0])) [.stuck] [])]]
noncomputable def iE(np:Nat):Fx:=#[1,1,[(.ret (.cmp .Is (.call np [⇑0]) (.val .non)))]]
def bU(mu od wi mc:Nat):Fx:=#[2,2,[(.expr (.call mu [⇑0])),(.ite (.not (.K4 ⇑1 "tuple")) (~~~4) []),(.ite (.cmp .Eq ⇑1 (.tup [(.val (.str gF))])) [(.ret (.call od [⇑0]))] []),(.ite (.or [(.cmp .NotEq (.blt .len [⇑1]) ↥2),(.cmp .NotEq (.ix ⇑1 ↥0) (.val (.str iH)))]) (~~~4) []),(.ret (.and [(.call wi [(.ix ⇑1 ↥1),↥1,(.blt .len [⇑0])]),(.call mc [⇑0,(.ix ⇑1 ↥1)])]))]]
noncomputable def rX:Fx:=#[1,1,[(.ret (.cmp .Eq (.bin .Mod (.blt .sum [⇑0]) ↥2) ↥1))]]
def kY:Fx:=#[2,3,[(.setC 2 (.comp 3 2 (.nm 4) (.slice ⇑0 (!⇑1) none) none (.blt .min [⇑4,⇑1]))),(.ret (.cmp .Gt (.blt .sum [(.slice ⇑0 none (!⇑1))]) (.bin .Add (.bin .Mult ⇑1 (.bin .Sub ⇑1 ↥1)) (.blt .sum [⇑2]))))]]
def fK(mu od mc:Nat):Fx:=#[1,2,[(.expr (.call mu [⇑0])),(.ite (.call od [⇑0]) [(.ret (.tup [(.val (.str gF))]))] []),(.setC 1 (.comp 2 2 (.nm 3) (.eO ↥1 (.bin .Add (.blt .len [⇑0]) ↥1)) (!(.call mc [⇑0,⇑3])) ⇑3)),(.ret (.ite ⇑1 (.tup [(.val (.str iH)),(.ix ⇑1 ↥0)]) (.val .non)))]]
def yx(t: ~~~0):Bool:=decide (t.sum % 2=1)
def jf(t: ~~~0)(k:Nat):Bool:=decide ((t.take k).sum > (k:Int) * ((k:Int) - 1)+((t.drop k).map λx=>if (k:Int)<x then (k:Int)else x).sum)
structure yy(t: ~~~0):Prop where
 l1:1<=t.length
 l2:t.length<=12
 r:vR t.length t
 s:t.Pairwise (· ≥ ·)
theorem yy.is{t: ~~~0}(h:yy t):Mr (~~~t)=true:=by
 rw[Dm #[by simpa using h.l1,by simpa using h.l2],ints_map]
 simp only[eM];refine#[hZ.mpr λx hx=>?_,(Mt t).mpr h.s]
 obtain⟨y,hy,rfl⟩:=eC.mp hx;rw[d6];exact i5 (h.r.2 y hy)
theorem Yz(t: ~~~0)(k:Nat)(h:k<=t.length):jA (t.map D.int) (!(k:Int)) none=(t.drop k).map .int:=by unfold jA;rw[HT.Bs,HT.v7,d6,CD h,<- List.map_drop,BM ⋯]
theorem YB(t: ~~~0)(k:Nat)(h:k<=t.length):jA (t.map D.int) none (!(k:Int))=(t.take k).map .int:=by unfold jA;rw[HT.Bs,HT.v7,d6,CD h,List.drop_zero,Nat.sub_zero,<- List.map_take]
section
variable{k n:Nat}{g g1:G}{rn:Nat->Rn}{fns:List Fx}(U:gI fns rn)
include U
theorem Mw(t: ~~~0):bA (rn (n+10)) k rX [~~~t]=!(.dat (.bl (yx t))):=by unfold bA rX yx;simp! [U,ou]
theorem GR(t a b: ~~~0)(v m:Int)(o:∀n k,bS (rn (n+10)) [] k 3 2 (.nm 4) (.slice ⇑0 (!⇑1) none) none (.blt .min [⇑4,⇑1]) [.dat (~~~t),‹v›,.no]=!(a.map .int,[.dat (~~~t),‹v›,.no]))(c:jA (t.map D.int) none (!v)=b.map .int)(mu:nO .Mult (.int v) (.int (v - 1))=!‹m›):bA (rn (n+20)) k kY [~~~t,.int v]=!(.dat (.bl (decide (b.sum > m+a.sum)))):=by unfold bA kY;simp! [U,o,xO,c,mu]
theorem Mx(t: ~~~0)(h:t.length<=12)(v:Int)(l: ~~~0)(hl:jA (t.map D.int) (!v) none=l.map .int)(hl2:l.length<=12):∀n k,bS (rn (n+10)) [] k 3 2 (.nm 4) (.slice ⇑0 (!⇑1) none) none (.blt .min [⇑4,⇑1]) [.dat (~~~t),‹v›,.no]=!((l.map λx=>if v<x then v else x).map .int,[.dat (~~~t),‹v›,.no]):=λn k=>by
 rw[List.map_map];refine kU (rn:=rn (n+10)) (bor:=[]) (k:=k) (g:=[.dat (~~~t),‹v›,.no]) (g1:=[.dat (~~~t),‹v›,.no]) (kk:=2) (nn:=3) (j:=4) l (λx=>D.int x) _ ?_ rfl ⋯ ⋯ ⋯ (ao _ ⋯) λa _ G' hG=>?_
 . simp! [U,cN,xO,hl]
 . have h1:G'[1]?=!‹v›:=hG.1 1 ⋯;have h4:=hG.2;simp! [U,h1,h4]
theorem Dp(t: ~~~0)(h:yy t)(j:Nat)(h1:1<=j)(h2:j<=t.length):bA (rn (n+20)) k kY [~~~t,.int j]=!(.dat (.bl (jf t j))):=by have hl:=h.l2;exact GR U t _ _ (j:Int) _ (Mx U t hl j (t.drop j) (Yz t j h2) (by simp;lia)) (YB t j h2) (jr (j:Int) ((j:Int) - 1) (.inl #[by lia,by lia]))
def RZ(s:PySem.Str):D->Bool
 |.str r=>decide (r=s)
 |_=>false
def muchI(t: ~~~0):D->Bool
 |.int i=>jf t i.toNat
 |_=>false
def ez(t: ~~~0):D->Bool
 |.tup l=>(match l with
  | [x]=>RZ gF x&&yx t
  | [x,y]=>RZ iH x&&(Ak 1 t.length y&&muchI t y)
  |_=>false)
 |_=>false
structure Cmp(d:D):Prop where
 o:∀l,d=.tup l->cY .Eq d (.tup [.str gF])=!(cS d (.tup [.str gF]))
 h:∀x l,d=.tup (x::l)->cY .Eq x (.str gF)=!(RZ gF x)/\cY .NotEq x (.str iH)=!((not (RZ iH x)))
variable{w wi fa ic mu od mc ci:Nat}(hW:fns[w]?=!bD)(hI:fns[wi]?=!(aO w))(hF:fns[fa]?=!je)(hC:fns[ic]?=!(aY wi fa))
include hW hI hF hC
theorem mC(t: ~~~0)(h:yy t):bA (rn (n+50)) (k+3) (bw ic ci) [~~~t]=!(.dat .non):=by
 have q:=λn k=>nk U hW hI hF (n:=n) (k:=k) (~~~t) (show (t.map D.int).length<=40 by rw[d6];have:=h.l2;lia)
 rw[h.is]at q;unfold bA bw;simp! [U,hC,az (fx:=aY wi fa) rfl,q]
end
theorem YC(s:PySem.Str)(x:D):cS x (.str s)=RZ s x:=by cases x <;> rfl
theorem mD(a:D)(l:List D)(b:D)(m:List D):bY (a::l) (b::m)=(cS a b&&bY l m):=rfl
theorem R0{a b:Int}{y:D}(h:Ak a b y=true):∃i:Int,y=.int i/\a<=i/\i<=b:=by
 cases y with
 |int i=>exact#[i,rfl,i4 (show decide (a<=i/\i<=b)=true from h)]
 |_=>symm
section
variable{k n:Nat}{g g1:G}{rn:Nat->Rn}{fns:List Fx}(U:gI fns rn){w wi fa ic mu od mc ci:Nat}(hW:fns[w]?=!bD)(hI:fns[wi]?=!(aO w))(hF:fns[fa]?=!je)(hC:fns[ic]?=!(aY wi fa))(hM:fns[mu]?=!(bw ic ci))(hO:fns[od]?=!rX)(hB:fns[mc]?=!kY)
include U hW hI hF hC hM hO hB
theorem Ar(t: ~~~0)(h:yy t)(d:D)(hd:Cmp d):bA (rn (n+70)) (k+4) (bU mu od wi mc) [~~~t,d]=!(.dat (.bl (ez t d))):=by
 have l1:=ao 1 ⋯;have q1:=λn k=>mC U hW hI hF hC (ci:=ci) (n:=n) (k:=k) t h
 have q2:=λn k=>Mw U (n:=n) (k:=k) t
 have q3:=λn k d=>jt U hW (n:=n) (k:=k) d 1 t.length
 cases d with
 |tup l=>
  have ho:=hd.o l rfl
  match l,hd,ho with
  | [],hd,ho=>have e:cS (.tup []) (.tup [.str gF])=false:=rfl;rw[e]at ho;unfold bA bU;simp! [U,l1,hM,az (fx:=bw ic ci) rfl,q1,ho,ez]
  | [x],hd,ho=>
   have e:cS (.tup [x]) (.tup [.str gF])=RZ gF x:=by show bY [x] [.str gF]=_;rw[mD,YC];exact Bool.and_true _
   rw[e]at ho;cases hx:RZ gF x with
   |true=>rw[hx]at ho;unfold bA bU;simp! [U,l1,hM,az (fx:=bw ic ci) rfl,q1,ho,hO,az (fx:=rX) rfl,q2,ez,hx]
   |false=>rw[hx]at ho;unfold bA bU;simp! [U,l1,hM,az (fx:=bw ic ci) rfl,q1,ho,ez,hx]
  | [x,y],hd,ho=>
   have e:cS (.tup [x,y]) (.tup [.str gF])=false:=by show bY [x,y] [.str gF]=_;rw[mD];exact yB _
   rw[e]at ho;have i0:L2.fS [x,y] 0=!x:=rfl;have i1:L2.fS [x,y] 1=!y:=rfl;have hm:=(hd.h x [y] rfl).2;cases hx:RZ iH x with
   |false=>rw[hx]at hm;unfold bA bU;simp! [U,l1,hM,az (fx:=bw ic ci) rfl,q1,ho,ez,hx,i0,hm]
   |true=>
    rw[hx]at hm;cases hy:Ak 1 t.length y with
    |false=>
     have BR:=λn k=>q3 n k y
     rw[hy]at BR;unfold bA bU;simp! [U,l1,hM,az (fx:=bw ic ci) rfl,q1,ho,ez,hx,i0,i1,hm,hI,jo (fx:=aO w) rfl,BR,hy]
    |true=>
     have BR:=λn k=>q3 n k y
     rw[hy]at BR;obtain⟨i,rfl,a1,a2⟩:=R0 hy;obtain⟨j,rfl⟩:∃j:Nat,i=j:=#[i.toNat,by lia]
     have q4:=λn k=>Dp U (n:=n) (k:=k) t h j ⋯ ⋯
     have e5:ez t (.tup [x,.int j])=jf t j:=by show (RZ iH x&&(Ak 1 t.length (.int j)&&jf t (j:Int).toNat))=_;rw[hx,hy,mE];rfl
     rw[e5];generalize jf t j=bb at q4;generalize (j:Int)=v at *;unfold bA bU;simp! [U,l1,hM,az (fx:=bw ic ci) rfl,q1,ho,i0,i1,hm,hI,jo (fx:=aO w) rfl,BR,hB,bu (fx:=kY) rfl,q4]
  |x::y::z::r,hd,ho=>
   have e:cS (.tup (x::y::z::r)) (.tup [.str gF])=false:=by show bY (x::y::z::r) [.str gF]=_;rw[mD];exact yB _
   rw[e]at ho;have hl : ¬ (((x::y::z::r).length:Int)=2):=by simp only[hV];lia
   generalize hL:x::y::z::r=L at *;have hp:ez t (.tup L)=false:=by rw[<- hL];rfl
   unfold bA bU;simp! [U,l1,hM,az (fx:=bw ic ci) rfl,q1,ho,hl,hp]
 |_=>unfold bA bU;simp! [U,l1,hM,az (fx:=bw ic ci) rfl,q1,qx,Hu,ez]
end
def My(t: ~~~0):Option Nat:=(List.range t.length).find? λi=>jf t (i+1)
def uc(t: ~~~0):D:=if yx t=true then .tup [.str gF]else match My t with
 |none=>.non
 |some i=>.tup [.str iH,.int ((i+1:Nat):Int)]
theorem atI_z(x:D)(l:List D):L2.fS (x::l) 0=!x:=jm (x::l) 0 (AO _)
theorem GX(m:Nat):bQ 1 m=(List.range m).map λ(i:Nat)=>D.int ((i+1:Nat):Int):=by unfold bQ;exact i7 λi _=>by congr 1;lia
noncomputable def hit(A s:Slot):Option D->Option (Fl×G)
 |some d=>!(.rt (.dat d),[A,s])
 |none=>!(.nx,[A,s])
theorem R3:Cmp (.tup [.str gF]):=#[λ_ _=>rfl,λx l e=>by cases e;exact#[rfl,rfl]]
theorem Mz(i:Int):Cmp (.tup [.str iH,.int i]):=#[λ_ _=>rfl,λx l e=>by cases e;exact#[rfl,rfl]]
theorem GZ(t: ~~~0):ez t (.tup [.str gF])=yx t:=by show (decide (gF=gF)&&yx t)=_;rw[i5 rfl,Bool.true_and]
theorem Au(t: ~~~0)(i:Nat)(h:i<t.length):ez t (.tup [.str iH,.int ((i+1:Nat):Int)])=jf t (i+1):=by show (decide (iH=iH)&&(decide (1<=((i+1:Nat):Int)/\((i+1:Nat):Int)<=t.length)&&jf t ((i+1:Nat):Int).toNat))=_;rw[i5 rfl,i5 ⋯,mE];rfl
section
variable{k n:Nat}{g g1:G}{rn:Nat->Rn}{fns:List Fx}(U:gI fns rn){w wi fa ic mu od mc ci np lp:Nat}(hW:fns[w]?=!bD)
include U hW
variable(hI:fns[wi]?=!(aO w))(hF:fns[fa]?=!je)(hC:fns[ic]?=!(aY wi fa))(hM:fns[mu]?=!(bw ic ci))(hO:fns[od]?=!rX)(hB:fns[mc]?=!kY)
include hI hF hC hM hO hB
theorem qX(t: ~~~0)(h:yy t):bA (rn (n+70)) (k+4) (fK mu od mc) [~~~t]=!(.dat (uc t)):=by
 have hl:=h.l2;have l1:=ao 1 ⋯;have l2:=ao 2 ⋯;have q1:=λn k=>mC U hW hI hF hC (ci:=ci) (n:=n) (k:=k) t h
 have q2:=λn k=>Mw U (n:=n) (k:=k) t
 unfold uc;cases ho:yx t with
 |true=>rw[ho]at q2;unfold bA fK;simp! [U,l1,hM,az (fx:=bw ic ci) rfl,q1,hO,az (fx:=rX) rfl,q2]
 |false=>
  rw[ho]at q2;have o:∀n k,bS (rn (n+30)) [] (k+1) 2 2 (.nm 3) (.eO ↥1 (.bin .Add (.blt .len [⇑0]) ↥1)) (!(.call mc [⇑0,⇑3])) ⇑3 [.dat (~~~t),.no]=!(((List.range t.length).filter λi=>jf t (i+1)).map λ(i:Nat)=>D.int ((i+1:Nat):Int),[.dat (~~~t),.no]):=λn k=>by
   refine Df (rn:=rn (n+30)) (bor:=[]) (k:=k+1) (g:=[.dat (~~~t),.no]) (g1:=[.dat (~~~t),.no]) (kk:=2) (nn:=2) (j:=3) (List.range t.length) (λ(i:Nat)=>D.int ((i+1:Nat):Int)) _ _ ?_ rfl ⋯ ⋯ ⋯ (ao _ (by simp;lia)) (λa ha G' hG=>?_) λa ha _ G' hG=>?_
   .
    rw[<- GX];have e:((t.length:Int)+1 - 1).toNat=t.length:=by lia
    simp! [U,cN,aI 1 ⋯,aI ((t.length:Int)+1) ⋯,e]
   .
    have h0:G'[0]?=!(.dat (~~~t)):=hG.1 0 ⋯;have h3:=hG.2;have q:=λn k=>Dp U (n:=n) (k:=k) t h (a+1) ⋯ (by have:=lS.mp ha;lia)
    generalize jf t (a+1)=bb at *;generalize ((a+1:Nat):Int)=v at *;unfold nP;simp! [U,h0,h3,hB,bu (fx:=kY) rfl,q]
   . have h3:=hG.2;generalize ((a+1:Nat):Int)=v at *;simp! [U,h3]
  unfold My;rw[<- List.head?_filter];generalize (List.range t.length).filter (λi=>jf t (i+1))=Z at o
  cases Z with
  |nil=>simp only[List.map_nil]at o;unfold bA fK;simp! [U,l1,hM,az (fx:=bw ic ci) rfl,q1,hO,az (fx:=rX) rfl,q2,o]
  |cons i Z=>
   have i0:∀v (l:List D),L2.fS (D.int v::l) 0=!(.int v):=λv l=>atI_z _ _
   simp only[List.map_cons]at o;simp only[List.head?_cons];generalize ((i+1:Nat):Int)=v at *;generalize Z.map (λ(i:Nat)=>D.int ((i+1:Nat):Int))=qqq at o
   unfold bA fK;simp! [U,l1,l2,hM,az (fx:=bw ic ci) rfl,q1,hO,az (fx:=rX) rfl,q2,o,i0]
variable(hN:fns[np]?=!(fK mu od mc))
include hN
theorem ud(t: ~~~0)(h:yy t):bA (rn (n+80)) (k+5) (iE np) [~~~t]=!(.dat (.bl (kF (uc t)))):=by
 have q:=λn k=>qX U hW hI hF hC hM hO hB (n:=n) (k:=k) t h
 unfold bA iE;simp! [U,hN,az (fx:=fK mu od mc) rfl,q,cY,isF]
end
abbrev Dq(ts: ~~~5):D:=.tup (ts.map ∅)
noncomputable def woC:Ex:=.comp 7 3 (.tp [8,9]) (.enum ⇑1) none (.ite (.cmp .In ⇑8 ⇑2) (.bin .Sub ⇑9 ↥1) ⇑9)
def YD:Fx:=#[3,7,[(.tgt (.tp [3,4]) ⇑2),(.set 5 (.lst [])),(.ite (.and [(.cmp .Gt (.ix ⇑1 ⇑3) ↥0),(.cmp .Gt (.ix ⇑1 ⇑4) ↥0)]) [(.setC 6 woC),(.expr (.append 5 (.tup [(.bin .Add ⇑0 (.tup [⇑2])),(.blt .tuple [⇑6])])))] []),(.ite (.cmp .Lt (.ix ⇑1 ⇑3) (.bin .Sub (.blt .len [⇑1]) ⇑4)) [(.expr (.append 5 (.tup [⇑0,⇑1])))] []),(.ret ⇑5)]]
noncomputable def iI(t: ~~~0)(a b:Nat): ~~~0:=t.zipIdx.map λp=>if (a:Int)=p.2\/(b:Int)=p.2 then p.1 - 1 else p.1
def oz(ts: ~~~5)(t: ~~~0)(a b:Nat):List (List (~~~0)×List Int):=
 (if gt t a > 0/\gt t b > 0 then [(ts++[[(a:Int),(b:Int)]],iI t a b)]else [])++(if gt t a<(t.length:Int) - b then [(ts,t)]else [])
abbrev iM(p: ~~~5×List Int):D:=.tup [Dq p.1,~~~p.2]
section
variable{k n:Nat}{rn:Nat->Rn}{fns:List Fx}(U:gI fns rn)
include U
theorem YF(ts: ~~~5)(t: ~~~0)(a b:Nat)(ht:t.length<=12)(g5 g6:Slot):∀n k,bS (rn (n+20)) [] k 7 3 (.tp [8,9]) (.enum ⇑1) none (.ite (.cmp .In ⇑8 ⇑2) (.bin .Sub ⇑9 ↥1) ⇑9) [.dat (Dq ts),.dat (~~~t),.dat (~~~[(a:Int),(b:Int)]),‹a›,‹b›,g5,g6]=!((iI t a b).map .int,[.dat (Dq ts),.dat (~~~t),.dat (~~~[(a:Int),(b:Int)]),‹a›,‹b›,g5,g6]):=λn k=>by
 unfold iI;rw[List.map_map];refine Ah t.zipIdx (λp=>.int (p.2:Int)) (λp=>.int p.1) (λp=>.int (if (a:Int)=p.2\/(b:Int)=p.2 then p.1 - 1 else p.1)) (by simp! [U,cN,dJ,GL]) rfl ⋯ ⋯ ⋯ ⋯ ⋯ ⋯ ⋯ (ao _ (by rw[List.length_zipIdx];lia)) λp _ G' hG=>?_
 have h1:=hG.1 2 ⋯;have h2:=hG.2.1;have h3:=hG.2.2;have hi:cY .In (.int (p.2:Int)) (~~~[(a:Int),(b:Int)])=!(decide ((a:Int)=p.2)||decide ((b:Int)=p.2)):=Mu (p.2:Int) a b
 by_cases e:(a:Int)=p.2\/(b:Int)=p.2
 .
  have hb:(decide ((a:Int)=p.2)||decide ((b:Int)=p.2))=true:=by simpa using e
  rw[hb]at hi;simp! [U,h1,h2,h3,hi,e]
 .
  have hb:(decide ((a:Int)=p.2)||decide ((b:Int)=p.2))=false:=by simpa using e
  rw[hb]at hi;simp! [U,h1,h2,h3,hi,e]
noncomputable def G0(ts: ~~~5)(t: ~~~0)(a b:Nat)(g5 g6:Slot):G:=[.dat (Dq ts),.dat (~~~t),.dat (~~~[(a:Int),(b:Int)]),‹a›,‹b›,g5,g6]
def YG(ts: ~~~5)(t: ~~~0)(a b:Nat):List (List (~~~0)×List Int):=if gt t a > 0/\gt t b > 0 then [(ts++[[(a:Int),(b:Int)]],iI t a b)]else []
theorem wo_ok(ts: ~~~5)(t: ~~~0)(a b:Nat)(ht:t.length<=12)(hs:ts.length<=66)(ha:a<t.length)(hb:b<t.length):bA (rn (n+40)) k YD [Dq ts,~~~t,~~~[(a:Int),(b:Int)]]=!(.new ((oz ts t a b).map iM)):=by
 have w:=YF U ts t a b ht;have ia:CV (~~~t) (D.int (a:Int))=!(D.int (gt t (a:Int))):=by show L2.fS (t.map D.int) a=_;rw[kW t a ha];unfold gt;simp[ha]
 have ib:CV (~~~t) (D.int (b:Int))=!(D.int (gt t (b:Int))):=by show L2.fS (t.map D.int) b=_;rw[kW t b hb];unfold gt;simp[hb]
 have ad:nO .Add (Dq ts) (.tup [~~~[(a:Int),(b:Int)]])=!(.dat (Dq (ts++[[(a:Int),(b:Int)]]))):=by
  rw[RN _ _ (by rw[d6];simp;lia)]
  simp
 have l2:=ao 2 ⋯;have l0:0<lim:=hU ⋯ l2;have cg:∀x:Int,cY .Gt (.int x) (.int 0)=!(decide (x > 0)):=λx=>rfl
 have s1:aA (rn (n+39)) [] k (.tgt (.tp [3,4]) ⇑2) [.dat (Dq ts),.dat (~~~t),.dat (~~~[(a:Int),(b:Int)]),.no,.no,.no,.no]=!(.nx,G0 ts t a b .no .no):=by have e:Tg.set (.tp [3,4]) (~~~[(a:Int),(b:Int)]) [.dat (Dq ts),.dat (~~~t),.dat (~~~[(a:Int),(b:Int)]),.no,.no,.no,.no]=!(G0 ts t a b .no .no):=rfl;simp! [U,e]
 have s2:aA (rn (n+39)) [] k (.set 5 (.lst [])) (G0 ts t a b .no .no)=!(.nx,G0 ts t a b (.own []) .no):=by unfold G0;simp! [U,U.e]
 have s3:∃g6,aA (rn (n+39)) [] k (.ite (.and [(.cmp .Gt (.ix ⇑1 ⇑3) ↥0),(.cmp .Gt (.ix ⇑1 ⇑4) ↥0)]) [(.setC 6 woC),(.expr (.append 5 (.tup [(.bin .Add ⇑0 (.tup [⇑2])),(.blt .tuple [⇑6])])))] []) (G0 ts t a b (.own []) .no)=!(.nx,G0 ts t a b (.own ((YG ts t a b).map iM)) g6):=by
  unfold G0 woC YG;by_cases h1:gt t (a:Int) > 0
  .
   by_cases h2:gt t (b:Int) > 0
   . refine#[.own ((iI t a b).map .int),?_];simp! [U,w,ia,ib,ad,h1,h2,ao 1 ⋯];rfl
   . refine#[.no,?_];simp! [U,ia,ib,h1,h2]
  . refine#[.no,?_];simp! [U,ia,h1]
 obtain⟨g6,s3⟩:=s3;have s4:aA (rn (n+39)) [] k (.ite (.cmp .Lt (.ix ⇑1 ⇑3) (.bin .Sub (.blt .len [⇑1]) ⇑4)) [(.expr (.append 5 (.tup [⇑0,⇑1])))] []) (G0 ts t a b (.own ((YG ts t a b).map iM)) g6)=!(.nx,G0 ts t a b (.own ((oz ts t a b).map iM)) g6):=by
  have hl:(YG ts t a b).length<=1:=by unfold YG;split <;> simp
  have e:oz ts t a b=YG ts t a b++if gt t a<(t.length:Int) - b then [(ts,t)]else []:=rfl
  rw[e];generalize YG ts t a b=l at hl;unfold G0;by_cases h2:gt t (a:Int)<(t.length:Int) - b
  . rw[eR h2];have hl2:=hU (Nat.lt_succ_of_le hl) l2;simp! [U,ia,h2,l2,hl2];rfl
  . rw[eP h2];simp! [U,ia,h2]
 unfold bA YD;have body:(rn (n+40)).b [] k [(.tgt (.tp [3,4]) ⇑2),(.set 5 (.lst [])),(.ite (.and [(.cmp .Gt (.ix ⇑1 ⇑3) ↥0),(.cmp .Gt (.ix ⇑1 ⇑4) ↥0)]) [(.setC 6 woC),(.expr (.append 5 (.tup [(.bin .Add ⇑0 (.tup [⇑2])),(.blt .tuple [⇑6])])))] []),(.ite (.cmp .Lt (.ix ⇑1 ⇑3) (.bin .Sub (.blt .len [⇑1]) ⇑4)) [(.expr (.append 5 (.tup [⇑0,⇑1])))] []),(.ret ⇑5)] [.dat (Dq ts),.dat (~~~t),.dat (~~~[(a:Int),(b:Int)]),.no,.no,.no,.no]=!(.rt (.var 5),G0 ts t a b (.own ((oz ts t a b).map iM)) g6):=by rw[U.b,au s1,au s2,au s3,au s4];unfold G0;simp! [U,U.e]
 have hp:fB 7 (X5 [Dq ts,~~~t,~~~[(a:Int),(b:Int)]])=[.dat (Dq ts),.dat (~~~t),.dat (~~~[(a:Int),(b:Int)]),.no,.no,.no,.no]:=rfl;rw[hp];rw[body];rfl
end
section
variable{bor:List Nat}{k:Nat}{g g1:G}{rn:Rn}
theorem uf{α β:Type}(aM jD:α->D)(ys:α->List β)(bq:β->D)(f:α->β->D)(bW:last=g.length+kk)(h11:g.length<=j1)(h12:j1<g.length+kk)(h31:g.length<=j3)(h32:j3<g.length+kk)(h21:g.length<=j2)(h22:j2<g.length+kk)(iN:j1≠j3) :
  ∀(xs:List α) (m:G) (acc:List D),m.length=kk->acc.length+(xs.flatMap ys).length<=lim->
  (∀a∈xs,∀G',fW g j1 j3 (aM a) (jD a) G'->cN rn bor k false it G'=!((ys a).map bq,G'))->
  (∀a∈xs,∀b∈ys a,∀G',G'[j2]?=!(.dat (bq b))->fT rn bor k e G'=!(f a b,G'))->
  ∃m',m'.length=kk/\qz rn bor k (.tp [j1,j3]) none (.nm j2) it none e last (xs.map λa=>.tup [aM a,jD a]) (gM g m acc)=!(gM g m' (acc++xs.flatMap λa=>(ys a).map (f a)))
 | [],m,acc,hm,_,_,_=>#[m,hm,by simp[qz]]
 |a::xs,m,acc,hm,hl,hw,he=>by
  rw[wE,fA]at hl;have p1:=dQ (g:=g) (m:=m) (acc:=acc) (i:=j1 - g.length) (s:=.dat (aM a)) ⋯;have p2:=dQ (g:=g) (m:=m.set (j1 - g.length) (.dat (aM a))) (acc:=acc) (i:=j3 - g.length) (s:=.dat (jD a)) (by simp;lia)
  rw[show g.length+(j1 - g.length)=j1 by lia]at p1
  rw[show g.length+(j3 - g.length)=j3 by lia]at p2
  have q1:(Tg.tp [j1,j3]).set (.tup [aM a,jD a]) (gM g m acc)=!(gM g ((m.set (j1 - g.length) (.dat (aM a))).set (j3 - g.length) (.dat (jD a))) acc):=by show some (((gM g m acc).set j1 (.dat (aM a))).set j3 (.dat (jD a)))=_;rw[p1,p2]
  have hm1:((m.set (j1 - g.length) (.dat (aM a))).set (j3 - g.length) (.dat (jD a))).length=kk:=by simpa using hm
  have s2:fW g j1 j3 (aM a) (jD a) (gM g ((m.set (j1 - g.length) (.dat (aM a))).set (j3 - g.length) (.dat (jD a))) acc):=by
   refine#[λi hi=>eX hi,?_,?_]
   .
    have:=bR (g:=g) (m:=(m.set (j1 - g.length) (.dat (aM a))).set (j3 - g.length) (.dat (jD a))) (acc:=acc) (i:=j1 - g.length) (by simp;lia)
    rw[show g.length+(j1 - g.length)=j1 by lia]at this
    rw[this,fR ⋯,gL ⋯]
   .
    have:=bR (g:=g) (m:=(m.set (j1 - g.length) (.dat (aM a))).set (j3 - g.length) (.dat (jD a))) (acc:=acc) (i:=j3 - g.length) (by simp;lia)
    rw[show g.length+(j3 - g.length)=j3 by lia]at this
    rw[this,gL (by simp;lia)]
  have q2:=hw a b0 _ s2;have at2:∀(b:β) (m:G) (acc:List D),m.length=kk->(gM g (m.set (j2 - g.length) (.dat (bq b))) acc)[j2]?=!(.dat (bq b)):=λb m acc hm=>by
   have:=bR (g:=g) (m:=m.set (j2 - g.length) (.dat (bq b))) (acc:=acc) (i:=j2 - g.length) (by rw[l8];lia)
   rw[show g.length+(j2 - g.length)=j2 by lia]at this
   rw[this,gL (by rw[hm];lia)]
  obtain⟨m2,w1,w2⟩:=jc bq (f a) (λ_=>true) (c:=none) (λb m=>m.set (j2 - g.length) (.dat (bq b))) (λm=>m.length=kk) (λ_ h=>h) bW (λb m h=>by simpa using h) (ys a) _ acc hm1 ⋯
   (λb _ m acc h=>qK (kk:=kk) h21 ⋯) (λb hb m acc h=>rfl) λb hb _ m acc h=>he a b0 b hb _ (at2 b m acc h)
  rw[filter_all]at w2;obtain⟨m3,v1,v2⟩:=uf aM jD ys bq f bW h11 h12 h31 h32 h21 h22 iN xs m2 (acc++(ys a).map (f a)) w1 (by rw[fA,d6];lia) (λx hx=>hw x (bP _ hx)) (λx hx=>he x (bP _ hx))
  refine#[m3,v1,?_];rw[List.map_cons];unfold qz;rw[q1];dsimp only[nP,Tg.iC];rw[q2];dsimp only;rw[w2];dsimp only;rw[v2,wE,rV]
theorem YH{α β:Type}(xs:List α)(aM jD:α->D)(ys:α->List β)(bq:β->D)(f:α->β->D)(hw1:cN rn bor k true lU g=!(xs.map λa=>.tup [aM a,jD a],g1))(hn:nn=g1.length)(h11:g1.length<=j1)(h12:j1<g1.length+kk)(h31:g1.length<=j3)(h32:j3<g1.length+kk)(h21:g1.length<=j2)(h22:j2<g1.length+kk)(iN:j1≠j3)(hb1:j1∉bor)(hb3:j3∉bor)(hb2:j2∉bor)(hl:(xs.flatMap ys).length<=lim)
  (hw:∀a∈xs,∀G',fW g1 j1 j3 (aM a) (jD a) G'->cN rn bor k false it G'=!((ys a).map bq,G'))
  (he:∀a∈xs,∀b∈ys a,∀G',G'[j2]?=!(.dat (bq b))->fT rn bor k e G'=!(f a b,G')) :
  iD rn bor k nn kk (.tp [j1,j3]) lU none (.nm j2) it none e g=!(xs.flatMap λa=>(ys a).map (f a),g1):=by
 subst hn;obtain⟨m',w1,w2⟩:=uf aM jD ys bq f rfl h11 h12 h31 h32 h21 h22 iN xs (List.replicate kk .no) [] ⋯ (by simpa using hl) hw he
 unfold iD;rw[show Tg.iC (.tp [j1,j3])=true from rfl,hw1]
 dsimp only;rw[eR #[rfl,by simp[Tg.ix,hb1,hb2,hb3]],x8,w2]
 dsimp only;have:∀acc,(gM g1 m' acc)[g1.length+kk]?=!(.own acc):=λacc=>by rw[<- w1];exact fV
 rw[this];rw[kT,AX]
end
def led(m:Nat)(aj: ~~~5)(m':Nat)(ties': ~~~5): ~~~5:=(turnsOf m).filter λt=>decide (m=m'/\tw t aj=ties')
theorem nD(m:Nat):∀(s:Nat) (r: ~~~0),r.length=s->r.Nodup->(∀x∈r,x∈nums m)->r∈dW m s
 | 0,r,h,_,_=>by
  rw[List.length_eq_zero_iff.mp h];exact AS []
 |s+1,r,h,hn,hm=>by
  obtain⟨a,x,rfl⟩:∃a x,r=a++[x]:=#[r.dropLast,r.getLast (by rintro rfl;symm),(List.dropLast_concat_getLast _).symm]
  rw[fA,tJ]at h;rw[oT]at hn;unfold dW ext;rw[x3];refine#[a,nD m s a ⋯ hn.1 λy hy=>hm y (oD _ hy),?_]
  rw[eC];refine#[x,lL.mpr #[hm x (i6 _ (AS x)),?_],rfl];rw[Bool.not_eq_true',decide_eq_false_iff_not];exact λhx=>hn.2.2 x hx x (AS x) rfl
theorem cX(h:Tn m t):t∈turnsOf m:=nD m m t h.length h.nodup λx hx=>jd.mpr (h.mem.mp hx)
theorem R9(h:Pr m x):x∈prs m:=by obtain⟨a,b,rfl,h1,h2,h3⟩:=h;unfold prs pacc;rw[List.mem_flatten];refine#[yi m a.toNat,eC.mpr #[a.toNat,lS.mpr ⋯,rfl],?_];unfold yi;rw[eC];refine#[(b - a - 1).toNat,lS.mpr ⋯,?_];rw[show ((a.toNat:Nat):Int)=a by lia,show a+1+(((b - a - 1).toNat:Nat):Int)=b by lia]
noncomputable def Av:Fx:=#[1,1,[(.ret (.dG 1 3 (.nm 2) (.cz ⇑0) none (.nm 3) (.eO (.bin .Add ⇑2 ↥1) ⇑0) none (.tup [⇑2,⇑3])))]]
section
variable{k n:Nat}{rn:Nat->Rn}{fns:List Fx}(U:gI fns rn)
include U
theorem YJ(m:Nat)(hm:m<=9)(hl:(prs m).length<=100):bA (rn (n+20)) k Av [.int m]=!(.new ((prs m).map ∅)):=by
 have e0:(prs m).map ∅=(List.range m).flatMap λa=>((List.range (m - (a+1))).map λ(b:Nat)=>(a:Int)+1+(b:Int)).map λy=>~~~[(a:Int),y]:=by
  unfold prs pacc yi;rw[List.map_flatten,List.map_map,List.flatMap]
  congr 1
  refine i7 λa _=>?_
  show List.map _ (List.map _ _)=_;rw[List.map_map,List.map_map];rfl
 have hl':((List.range m).flatMap λa=>(List.range (m - (a+1))).map λ(b:Nat)=>(a:Int)+1+(b:Int)).length<=lim:=by
  refine ao _ (l4 (Nat.le_of_eq ?_) (l4 hl ⋯));unfold prs pacc yi;rw[List.flatMap,List.length_flatten,List.length_flatten,List.map_map,List.map_map]
  congr 1
  refine i7 λa _=>?_
  simp
 have w:=Dn (rn:=rn (n+18)) (bor:=[]) (k:=k) (g:=[‹m›]) (g1:=[‹m›]) (kk:=3) (nn:=1) (j1:=2) (j2:=3) (lU:=.cz ⇑0) (it:=.eO (.bin .Add ⇑2 ↥1) ⇑0) (c:=none) (e:=.tup [⇑2,⇑3]) (List.range m) (λ(a:Nat)=>D.int (a:Int)) (λa=>(List.range (m - (a+1))).map λ(b:Nat)=>(a:Int)+1+(b:Int)) D.int (λ_ _=>true) (λa y=>~~~[(a:Int),y]) (by
  have hr:bQ 0 m=(List.range m).map λ(j:Nat)=>D.int (j:Int):=by unfold bQ;exact i7 λx _=>by rw[CS]
  simp! [U,cN,aI (m:Int) ⋯,hr]) rfl ⋯ ⋯ ⋯ ⋯ ⋯ ⋯ ⋯ hl' (λa ha G' hG=>by
  have h0:G'[0]?=!‹m›:=hG.1 0 ⋯;have h2:=hG.2;rw[lS]at ha;have e1:((m:Int) - ((a:Int)+1)).toNat=m - (a+1):=by lia
  have e2:bQ ((a:Int)+1) (m - (a+1))=((List.range (m - (a+1))).map λ(b:Nat)=>(a:Int)+1+(b:Int)).map .int:=by unfold bQ;rw[List.map_map];rfl
  simp! [U,cN,h0,h2,aI (m:Int) ⋯,aI ((a:Int)+1) ⋯,e1,e2]) (λa _ b _ G' _=>rfl) (λa ha b hb _ G' hG=>by
  have h1:=hG.2.1;have h2:=hG.2.2;simp! [U,h1,h2];rfl)
 simp only[filter_all]at w;rw[e0];unfold bA Av;simp! [U,w]
end
def waB(wo:Nat):List Sm:=[(.setC 2 (.dG 4 4 (.tp [5,6]) ⇑2 none (.nm 7) (.call wo [⇑5,⇑6,⇑3]) none ⇑7))]
def fY(pa wo:Nat):Fx:=#[1,4,[(.set 1 (.blt .len [⇑0])),(.set 2 (.lst [(.tup [(.tup []),⇑0])])),(.loop (.nm 3) (.call pa [⇑1]) (waB wo)),(.ret (.comp 4 3 (.tp [5,6]) ⇑2 (!(.cmp .Eq (.blt .sum [⇑6]) ↥0)) (.tup [⇑1,⇑5])))]]
abbrev Row:=List (~~~0)×List Int
def kZ(p: ~~~0)(rows:List Row):List Row:=rows.flatMap λr=>oz r.1 r.2 (gt p 0).toNat (gt p 1).toNat
def mF(ps: ~~~5)(rows:List Row):List Row:=ps.foldl (λrs p=>kZ p rs) rows
def aU(t: ~~~0):List (~~~5):=((mF (prs t.length) [([],t)]).filter λr=>decide (r.2.sum=0)).map (·.1)
theorem mG(t: ~~~0)(a b:Nat):(iI t a b).length=t.length:=by unfold iI;rw[d6,List.length_zipIdx]
theorem Sd(h:r∈oz ts t a b):r.2.length=t.length/\r.1.length<=ts.length+1:=by
 rcases o5.mp h with h |h
 .
  split at h
  . rw[fI.mp h];exact#[mG t a b,by simp]
  . symm
 .
  split at h
  . rw[fI.mp h];exact#[rfl,y4 _]
  . symm
theorem Dr(ts: ~~~5)(t: ~~~0)(a b:Nat):(oz ts t a b).length<=2:=by unfold oz;split <;> split <;> simp
def j4(m i:Nat)(rows:List Row):Prop:=rows.length<=2 ^ i/\∀r∈rows,r.2.length=m/\r.1.length<=i
theorem vE{α β:Type}(f:α->List β)(c:Nat):∀l:List α,(∀a∈l,(f a).length<=c)->(l.flatMap f).length<=l.length * c
 | [],_=>by simp
 |a::l,h=>by
  rw[wE,fA,hV];have h1:=h a b0;have h2:=vE f c l λx hx=>h x (bP _ hx)
  lia
theorem j4.next{m i:Nat}{rows:List Row}(h:j4 m i rows)(p: ~~~0):j4 m (i+1) (kZ p rows):=by
 refine#[?_,λr hr=>?_]
 .
  have:=vE (λr:Row=>oz r.1 r.2 (gt p 0).toNat (gt p 1).toNat) 2 rows λr _=>Dr _ _ _ _
  have h1:=h.1;unfold kZ;lia
 . obtain⟨r0,h0,h1⟩:=x3.mp hr;obtain⟨q1,q2⟩:=h.2 r0 h0;obtain⟨q3,q4⟩:=Sd h1;exact#[by lia,by lia]
theorem MF(p: ~~~0):∀(ps: ~~~5) (rows:List Row),mF (ps++[p]) rows=kZ p (mF ps rows):=λps rows=>by
 unfold mF;rw[List.foldl_append];rfl
theorem vF{m:Nat}{t: ~~~0}(ht:t.length=m):∀ps:List (~~~0),∀rows i,j4 m i rows->j4 m (i+ps.length) (mF ps rows)
 | [],_,_,h=>h
 |p::ps,rows,i,h=>by
  have:=vF ht ps _ _ (h.next p);rw[show i+1+ps.length=i+(p::ps).length by rw[hV];lia]at this
  exact this
theorem rows0(ht:t.length=m):j4 m 0 [([],t)]:=#[eD _,λr hr=>by rw[fI.mp hr];exact#[ht,eD _]]
section
variable{k n:Nat}{rn:Nat->Rn}{fns:List Fx}(U:gI fns rn){wo pa:Nat}(Uc:fns[wo]?=!YD)
include U Uc
theorem Se(m:Nat)(hm:1<=m/\m<=6)(t: ~~~0)(i:Nat)(hi:i<=15)(rows:List Row)(hr:j4 m i rows)(p: ~~~0)(hp:Pr m p):(rn (n+60)).b [] (k+1) (waB wo) [.dat (~~~t),‹m›,.own (rows.map iM),.dat (~~~p)]=!(.nx,[.dat (~~~t),‹m›,.own ((kZ p rows).map iM),.dat (~~~p)]):=by
 obtain⟨a,b,rfl,h0,h1,h2⟩:=hp;obtain⟨a,rfl⟩:∃x:Nat,a=x:=#[a.toNat,by lia]
 obtain⟨b,rfl⟩:∃x:Nat,b=x:=#[b.toNat,by lia]
 have eN:kZ [(a:Int),(b:Int)] rows=rows.flatMap λr=>oz r.1 r.2 a b:=rfl
 have aJ:(rows.flatMap λr=>oz r.1 r.2 a b).length<=lim:=by
  have:=vE (λr:Row=>oz r.1 r.2 a b) 2 rows λr _=>Dr _ _ _ _
  have h3:=hr.1;have h4:2 ^ i<=2 ^ 15:=A7 ⋯ hi;unfold lim;lia
 have w:=YH (rn:=rn (n+59)) (bor:=[]) (k:=k+1) (g:=[.dat (~~~t),‹m›,.own (rows.map iM),.dat (~~~[(a:Int),(b:Int)])]) (g1:=[.dat (~~~t),‹m›,.dat (.lst (rows.map iM)),.dat (~~~[(a:Int),(b:Int)])]) (nn:=4) (kk:=4) (j1:=5) (j3:=6) (j2:=7) (lU:=.slot 2) (it:=.call wo [⇑5,⇑6,⇑3]) (e:=.slot 7) rows (λr=>Dq r.1) (λr=>~~~r.2) (λr=>oz r.1 r.2 a b) iM (λ_ y=>iM y) (by simp! [U,cN]) rfl ⋯ ⋯ ⋯ ⋯ ⋯ ⋯ ⋯ ⋯ ⋯ ⋯ aJ (λr hr' G' hG=>by
   obtain⟨q1,q2⟩:=hr.2 r hr';have g3:=hG.1 3 ⋯;have wk:=λn k=>wo_ok U (n:=n) (k:=k) r.1 r.2 a b ⋯ ⋯ ⋯ ⋯
   simp! [U,cN,hG.2.1,hG.2.2,g3,Uc,jo (fx:=YD) rfl,wk]) λr _ y _ G' hG=>by
   simp! [U,hG]
 have e:(rows.flatMap λr=>(oz r.1 r.2 a b).map λy=>iM y)=(kZ [(a:Int),(b:Int)] rows).map iM:=by rw[eN,List.map_flatMap]
 rw[e]at w;unfold waB;simp! [U,w]
theorem mH(hPa:fns[pa]?=!Av)(t: ~~~0)(hm:1<=t.length/\t.length<=6):bA (rn (n+70)) (k+1) (fY pa wo) [~~~t]=!(.new ((aU t).map λts=>W t.length ts)):=by
 have hps:=jZ hm;have pf:=λn k=>YJ U (n:=n) (k:=k) t.length ⋯ ⋯
 obtain⟨g',⟨done,b3,hd,rfl⟩,w⟩:=bM (T:=.nm 3) (λp=>~~~p)
  (I:=λl g=>∃(done: ~~~5) (b3:Slot),prs t.length=done++l/\g=[.dat (~~~t),.dat (.int t.length),.own ((mF done [([],t)]).map iM),b3])
  (step:=λp l g h=>by
   obtain⟨done,b3,hd,rfl⟩:=h;have h15:done.length<=15:=by have:=hps.2.2;rw[hd,fA]at this;lia
   have ro:=vF rfl done _ _ (rows0 (t:=t) rfl);rw[AB]at ro;have hp:=hps.1 p (by rw[hd];exact i6 _ b0)
   have st:=Se U Uc (n:=n+9) (k:=k) t.length hm t done.length h15 _ ro p hp;exact#[_,_,rfl,st,done++[p],_,by rw[rV];exact hd,by rw[MF]]) (prs t.length) [.dat (~~~t),.dat (.int t.length),.own ([([],t)].map iM),.no] #[[],.no,rfl,rfl]
 rw[n0]at hd;subst hd;have fin:bS (rn (n+68)) [] (k+1) 4 3 (.tp [5,6]) ⇑2 (!(.cmp .Eq (.blt .sum [⇑6]) ↥0)) (.tup [⇑1,⇑5]) [.dat (~~~t),.dat (.int t.length),.own ((mF (prs t.length) [([],t)]).map iM),b3]=!((aU t).map λts=>W t.length ts,[.dat (~~~t),.dat (.int t.length),.dat (.lst ((mF (prs t.length) [([],t)]).map iM)),b3]):=by
  have ro:=vF rfl (prs t.length) _ _ (rows0 (t:=t) rfl);have e:(aU t).map (λts=>W t.length ts)=((mF (prs t.length) [([],t)]).filter λr=>decide (r.2.sum=0)).map λr=>W t.length r.1:=by unfold aU;rw[List.map_map];rfl
  rw[e];generalize mF (prs t.length) [([],t)]=rows at ro;refine dG rows (λr=>Dq r.1) (λr=>~~~r.2) (λr=>decide (r.2.sum=0)) (λr=>W t.length r.1) (by simp! [U,cN]) rfl ⋯ ⋯ ⋯ ⋯ ⋯ ⋯ ⋯ (by
   have h3:=ro.1;have h4:2 ^ (prs t.length).length<=2 ^ 15:=A7 ⋯ hps.2.2;unfold lim;lia) (λr _ G' hG=>?_) λr _ _ G' hG=>?_
  . simp! [U,nP,hG.2.2]
  . have g1:=hG.1 1 ⋯;simp! [U,g1,hG.2.1];rfl
 rw[show ([(([]: ~~~5),t)]:List Row).map iM=[.tup [.tup [],~~~t]]from rfl]at w
 generalize hb:(rn (n+69)).b [] (k+1) (waB wo)=bb at w;unfold bA fY;simp! [U,cN,hPa,az (fx:=Av) rfl,pf,hb,w,fin,ao 1 ⋯,ao 2 ⋯]
end
def Reach: ~~~5->Row->Row->Prop
 | [],r0,r=>r=r0
 |p::ps,r0,r=>∃r1∈oz r0.1 r0.2 (gt p 0).toNat (gt p 1).toNat,Reach ps r1 r
theorem qY:∀(ps: ~~~5) (rows:List Row) (r:Row),r∈mF ps rows ↔ ∃r0∈rows,Reach ps r0 r
 | [],rows,r=>by
  constructor
  . exact λh=>#[r,h,rfl]
  . rintro⟨r0,h,rfl⟩;exact h
 |p::ps,rows,r=>by
  show r∈mF ps (kZ p rows) ↔ _;rw[qY ps (kZ p rows) r];constructor
  . rintro⟨r1,h1,h2⟩;obtain⟨r0,h0,h3⟩:=x3.mp h1;exact#[r0,h0,r1,h3,h2]
  . rintro⟨r0,h0,r1,h1,h2⟩;exact#[r1,x3.mpr #[r0,h0,h1],h2]
theorem Ds{t: ~~~0}{a b:Nat}{i:Nat}(hi:i<t.length):gt (iI t a b) (i:Int)=if a=i\/b=i then gt t i - 1 else gt t i:=by
 unfold gt iI;simp only[mE,dE,l6,List.getElem?_zipIdx,eA hi,Option.map,Option.getD];by_cases h:a=i\/b=i
 . rw[eR h,eR ⋯]
 . rw[eP h,eP ⋯]
theorem oA:r∈oz ts t a b ↔ ((gt t a > 0/\gt t b > 0)/\r=(ts++[[(a:Int),(b:Int)]],iI t a b))\/(gt t a<(t.length:Int) - b/\r=(ts,t)):=by
 unfold oz;rw[o5];constructor
 .
  rintro (h |h)
  .
   split at h
   . rename_i q;exact .inl #[q,fI.mp h]
   . symm
  .
   split at h
   . rename_i q;exact .inr #[q,fI.mp h]
   . symm
 .
  rintro (⟨q,rfl⟩ |⟨q,rfl⟩)
  . left;rw[eR q];exact fI.mpr rfl
  . right;rw[eR q];exact fI.mpr rfl
theorem yz(i a b:Nat):has (i:Int) [(a:Int),(b:Int)]=decide (a=i\/b=i):=by
 show (decide ((a:Int)=i)||decide ((b:Int)=i))=_
 rw[show decide ((a:Int)=i)=decide (a=i)from x0.mpr ⋯,show decide ((b:Int)=i)=decide (b=i)from x0.mpr ⋯]
 by_cases h1:a=i <;> by_cases h2:b=i <;> simp[h2]
theorem jg{m:Nat}:∀(ps: ~~~5),(∀x∈ps,Pr m x)->∀r0 r:Row,r0.2.length=m->(∀i:Nat,i<m->0<=gt r0.2 i)->Reach ps r0 r->
  ∃s,s.Sublist ps/\r.1=r0.1++s/\r.2.length=m/\∀i:Nat,i<m->0<=gt r.2 i/\gt r.2 i=gt r0.2 i - (s.countP (has i):Nat)
 | [],_,r0,r,hl,hn,h=>by
  cases (show r=r0 from h)
  exact#[[],.slnil,by simp,hl,λi hi=>#[hn i hi,by simp]]
 |p::ps,hp,r0,r,hl,hn,#[r1,h1,h2]=>by
  obtain⟨a,b,rfl,h0,hab,hbm⟩:=hp p b0;obtain⟨a,rfl⟩:∃x:Nat,a=x:=#[a.toNat,by lia]
  obtain⟨b,rfl⟩:∃x:Nat,b=x:=#[b.toNat,by lia]
  have h1:r1∈oz r0.1 r0.2 a b:=h1;have pL:=λx hx=>hp x (bP _ hx)
  rcases oA.mp h1 with ⟨⟨g1,g2⟩,rfl⟩ |⟨g1,rfl⟩
  .
   have lg:∀i:Nat,i<m->gt (iI r0.2 a b) i=if a=i\/b=i then gt r0.2 i - 1 else gt r0.2 i:=λi hi=>Ds ⋯
   obtain⟨s,e1,e2,e3,e4⟩:=jg ps pL _ r ((mG _ _ _).trans hl) (λi hi=>by
    rw[lg i hi];have:=hn i hi;split
    . rename_i q;rcases q with rfl |rfl <;> lia
    .
     exact this) h2
   refine#[[(a:Int),(b:Int)]::s,e1.cons_cons _,by rw[e2];simp,e3,λi hi=>?_]
   obtain⟨q1,q2⟩:=e4 i hi;refine#[q1,?_];rw[q2,lg i hi,List.countP_cons,yz];by_cases h:a=i\/b=i
   . rw[i5 h];lia
   . rw[eP h,mN h];lia
  . obtain⟨s,e1,e2,e3,e4⟩:=jg ps pL _ r hl hn h2;exact#[s,e1.cons _,e2,e3,e4]
def MJ(m:Nat): ~~~5->Bool
 | []=>true
 |p::ps=>decide ((ps.countP (has (gt p 0)):Int)<(m:Int) - gt p 1)&&MJ m ps
theorem G3(hm:1<=m/\m<=6):MJ m (prs m)=true:=by apply six hm <;> decide +kernel
theorem fL:∀(ps: ~~~5),(∀x∈ps,Pr m x)->MJ m ps=true->∀(r0:Row) (s: ~~~5),r0.2.length=m->s.Sublist ps->(∀i:Nat,i<m->gt r0.2 i=(s.countP (has i):Nat))->
  ∃r,Reach ps r0 r/\r.1=r0.1++s/\r.2.length=m/\∀i:Nat,i<m->gt r.2 i=0
 | [],_,_,r0,s,hl,hs,hc=>by
  cases List.sublist_nil.mp hs;exact#[r0,rfl,by simp,hl,λi hi=>by simpa using hc i hi]
 |p::ps,hp,ho,r0,s,hl,hs,hc=>by
  obtain⟨a,b,rfl,h0,hab,hbm⟩:=hp p b0;obtain⟨a,rfl⟩:∃x:Nat,a=x:=#[a.toNat,by lia]
  obtain⟨b,rfl⟩:∃x:Nat,b=x:=#[b.toNat,by lia]
  have pL:=λx hx=>hp x (bP _ hx)
  obtain⟨o1,o2⟩:=(eM _ _).mp ho;have o1:(ps.countP (has (a:Int)):Int)<(m:Int) - b:=i4 o1;cases hs with
  |cons _ hs=>have hle:s.countP (has (a:Int))<=ps.countP (has (a:Int)):=hs.countP_le;obtain⟨r,e1,e2⟩:=fL ps pL o2 r0 s hl hs hc;refine#[r,#[r0,?_,e1],e2];show r0∈oz r0.1 r0.2 a b;exact oA.mpr (.inr #[by rw[hc a ⋯];lia,rfl])
  |cons_cons _ hs=>
   rename_i s;have cc:∀i:Nat,i<m->gt r0.2 i=((s.countP (has i)+if a=i\/b=i then 1 else 0:Nat):Int):=λi hi=>by
    rw[hc i hi,List.countP_cons,yz];by_cases h:a=i\/b=i <;> simp[h]
   obtain⟨r,e1,e2,e3⟩:=fL ps pL o2 (r0.1++[[(a:Int),(b:Int)]],iI r0.2 a b) s ((mG _ _ _).trans hl) hs λi hi=>by
    rw[Ds ⋯,cc i hi];by_cases h:a=i\/b=i
    . rw[eR h];lia
    . rw[eP h];lia
   refine#[r,#[_,?_,e1],by rw[e2];simp,e3]
   show _∈oz r0.1 r0.2 a b;refine oA.mpr (.inl #[#[?_,?_],rfl])
   . rw[cc a ⋯];lia
   . rw[cc b ⋯];lia
theorem MK{l: ~~~0}{P:Int->Prop}(h:∀i:Nat,i<l.length->P (gt l i)):∀x∈l,P x:=λx hx=>by
 obtain⟨i,hi,rfl⟩:=v6 hx;have:=h i hi;unfold gt at this;simpa [dE,hi]using this
theorem yC:∀l:List Int,(∀x∈l,0<=x)->l.sum=0->∀x∈l,x=0
 | [],_,_,x,hx=>nomatch hx
 |a::l,h,hs,x,hx=>by
  have h0:=h a b0;have hl:=λx hx=>h x (bP _ hx)
  have hp:∀l:List Int,(∀x∈l,0<=x)->0<=l.sum:=λl=>by
   induction l with
   |nil=>exact λ_=>Int.le_refl _
   |cons b l ih=>
    intro h;have:=ih λx hx=>h x (bP _ hx)
    have:=h b b0;rw[x5];lia
  have h1:=hp l hl;rw[x5]at hs;rcases eJ.mp hx with rfl |hx
  . lia
  . exact yC l hl ⋯ x hx
theorem yD:∀l:List Int,(∀x∈l,x=0)->l.sum=0
 | [],_=>rfl
 |a::l,h=>by
  rw[x5,h a b0,yD l λx hx=>h x (bP _ hx)]
  rfl
theorem G5{t: ~~~0}(hm:1<=t.length/\t.length<=6)(hn:∀x∈t,0<=x)(ts: ~~~5):ts∈aU t ↔ ts.Sublist (prs t.length)/\∀i:Nat,i<t.length->gt t i=(ts.countP (has i):Nat):=by
 have hp:=(jZ hm).1;have nn:∀i:Nat,i<t.length->0<=gt t i:=λi hi=>by
  unfold gt;simp only[mE,dE,eA hi];exact hn _ (oP hi)
 unfold aU;rw[eC];constructor
 .
  rintro⟨r,hr,rfl⟩;obtain⟨hr,hs⟩:=lL.mp hr;obtain⟨r0,h0,h1⟩:=(qY _ _ _).mp hr;rw[fI.mp h0]at h1;obtain⟨s,e1,e2,e3,e4⟩:=jg _ hp ([],t) r rfl nn h1;have e2:r.1=s:=e2;have z:=yC r.2 (MK λi hi=>(e4 i ⋯).1) (i4 hs)
  rw[e2];refine#[e1,λi hi=>?_]
  have q:=(e4 i hi).2;have g0:gt r.2 i=0:=by
   unfold gt;simp only[mE,dE,eA (show i<r.2.length by lia)]
   exact z _ (oP _)
  lia
 . rintro⟨h1,h2⟩;obtain⟨r,e1,e2,e3,e4⟩:=fL _ hp (G3 hm) ([],t) ts rfl h1 h2;refine#[r,lL.mpr #[(qY _ _ _).mpr #[_,fI.mpr rfl,e1],i5 (yD _ (MK λi hi=>e4 i ⋯))],e2]
theorem oB(h:x∈(oz ts t a b).map (·.1)):x=ts++[[(a:Int),(b:Int)]]\/x=ts:=by
 obtain⟨r,hr,rfl⟩:=eC.mp h;rcases oA.mp hr with ⟨_,rfl⟩ |⟨_,rfl⟩
 . exact .inl rfl
 . exact .inr rfl
theorem G6(ts: ~~~5)(t: ~~~0)(a b:Nat):((oz ts t a b).map (·.1)).Nodup:=by unfold oz;split <;> split <;> simp
theorem nF{a b:Nat}:∀rows:List Row,(rows.map (·.1)).Nodup->(∀r∈rows,[(a:Int),(b:Int)]∉r.1)->((rows.flatMap λr=>oz r.1 r.2 a b).map (·.1)).Nodup
 | [],_,_=>qS
 |r::rows,hn,hp=>by
  rw[List.map_cons,gN]at hn;rw[wE,pV,oT];refine#[G6 _ _ _ _,nF rows hn.2 λx hx=>hp x (bP _ hx),λx hx y hy e=>?_]
  subst e;obtain⟨q,hq,e1⟩:=eC.mp hy;obtain⟨r',hr',hq'⟩:=x3.mp hq;have hy':=eC.mpr #[q,hq',e1];have p1:=hp r b0;have p2:=hp r' (bP _ hr');have ne:r.1≠r'.1:=λz=>hn.1 (eC.mpr #[r',hr',z.symm])
  rcases oB hx with rfl |rfl
  .
   rcases oB hy' with e |e
   . exact ne (List.append_cancel_right e)
   . exact p2 (by rw[<- e];simp)
  .
   rcases oB hy' with e |e
   . exact p1 (by rw[e];simp)
   . exact ne e
theorem qZ:∀(ps: ~~~5),(∀x∈ps,Pr m x)->ps.Nodup->∀rows:List Row,(rows.map (·.1)).Nodup->(∀r∈rows,∀x∈ps,x∉r.1)->((mF ps rows).map (·.1)).Nodup
 | [],_,_,_,h,_=>h
 |p::ps,hp,hn,rows,h,hx=>by
  obtain⟨a,b,rfl,h0,hab,hbm⟩:=hp p b0;obtain⟨a,rfl⟩:∃x:Nat,a=x:=#[a.toNat,by lia]
  obtain⟨b,rfl⟩:∃x:Nat,b=x:=#[b.toNat,by lia]
  rw[gN]at hn;refine qZ ps (λx hx=>hp x (bP _ hx)) hn.2 _ (nF rows h λr hr=>hx r hr _ b0) λr hr x hxp hm=>?_
  obtain⟨r0,hr0,hr1⟩:=x3.mp hr;have h2:=hx r0 hr0 x (bP _ hxp);rcases oB (eC.mpr ⟨r,hr1,rfl⟩)with e |e
  .
   rw[e]at hm;rcases o5.mp hm with hm |hm
   . exact h2 hm
   . exact hn.1 (fI.mp hm▸hxp)
  . rw[e]at hm;exact h2 hm
theorem yE(hm:1<=t.length/\t.length<=6):(aU t).Nodup:=by
 have:=qZ (prs t.length) (jZ hm).1 (jZ hm).2.1 [([],t)] ⋯ λr hr x _=>by rw[fI.mp hr];simp
 exact this.sublist (List.filter_sublist.map _)
theorem Sf(hm:1<=m/\m<=6):(prs m).Pairwise λx y=>HT.lexLt x y=true:=by
 obtain⟨h1,h2⟩:=hm
 match m,h1,h2 with
 | 1,_,_=>decide +kernel
 | 2,_,_=>decide +kernel
 | 3,_,_=>decide +kernel
 | 4,_,_=>decide +kernel
 | 5,_,_=>decide +kernel
 | 6,_,_=>decide +kernel
noncomputable def jh:Fx:=#[2,2,[(.ret (.ite (.cmp .Lt ⇑0 ⇑1) (.tup [⇑0,⇑1]) (.tup [⇑1,⇑0])))]]
noncomputable def vG(to:Nat):Fx:=#[2,4,[(.tgt (.tp [2,3]) ⇑0),(.ret (.tup [⇑2,(.blt .tuple [(.blt .sorted [(.comp 4 3 (.tp [5,6]) ⇑3 none (.call to [(.ix ⇑1 ⇑5),(.ix ⇑1 ⇑6)]))])])]))]]
noncomputable def inv(m:Nat)(t: ~~~0): ~~~0:=(List.range m).map λ(k:Nat)=>(t.idxOf (k:Int):Int)
section
variable{k n:Nat}{g g1:G}{rn:Nat->Rn}{fns:List Fx}{wh wi it ri iw ci cj cw mw tu mt mb le to:Nat}(U:gI fns rn)
include U
theorem MN(a b:Int):bA (rn (n+8)) k jh [.int a,.int b]=!(.dat (~~~(if a<b then [a,b]else [b,a]))):=by
 unfold bA jh;by_cases h:a<b
 . simp! [U,h,ao 2 ⋯];simp
 . simp! [U,h,ao 2 ⋯];simp
variable(Zr:fns[to]?=!jh)
include Zr in
theorem MP(m:Nat)(aj: ~~~5)(t: ~~~0)(h:Wb m aj)(ht:Tn m t):bA (rn (n+40)) (k+2) (vG to) [W m aj,~~~t]=!(.dat (W m (tw t aj))):=by
 have hl:=h.len;have htl:=ht.length;have st:∀s1 s2,Tg.set (.tp [2,3]) (W m aj) [.dat (W m aj),.dat (~~~t),s1,s2]=![.dat (W m aj),.dat (~~~t),‹m›,.dat (.tup (aj.map ∅))]:=λ_ _=>rfl
 have w:=λn k=>Ah (rn:=rn (n+16)) (bor:=[]) (k:=k+1) (g:=[.dat (W m aj),.dat (~~~t),‹m›,.dat (.tup (aj.map ∅))]) (g1:=[.dat (W m aj),.dat (~~~t),‹m›,.dat (.tup (aj.map ∅))]) (kk:=3) (nn:=4) (j1:=5) (j2:=6) (it:=.slot 3) (e:=.call to [(.ix ⇑1 ⇑5),(.ix ⇑1 ⇑6)]) aj (λx=>.int (gt x 0)) (λx=>.int (gt x 1)) (λx=>~~~(tm t x)) (by simp! [U,cN,<- h.two]) rfl ⋯ ⋯ ⋯ ⋯ ⋯ ⋯ ⋯ (ao _ ⋯) λx hx G' hG=>by
  have h1:G'[1]?=!(.dat (~~~t)):=hG.1 1 ⋯;obtain⟨a,b,rfl,h2,h3,h4⟩:=h.tie x hx;have h5:=hG.2.1;have h6:=hG.2.2;rw[(eT a b).1]at h5;rw[(eT a b).2]at h6;simp! [U,h5,h6,h1,gB (t:=t) (i:=a) ⋯,gB (t:=t) (i:=b) ⋯,Zr,bu (fx:=jh) rfl,MN U,dj]
 have e1:aj.map (λx=>~~~(tm t x))=(aj.map (tm t)).map λx=>~~~x:=by rw[List.map_map];rfl
 have e2:=fH (aj.map (tm t)) (λx hx=>by obtain⟨y,_,rfl⟩:=eC.mp hx;unfold tm;split <;> simp) (by simp;lia)
 unfold bA vG;simp! [U,Tg.ix,st,w,e1,e2,ao 2 ⋯];rfl
variable(hW:fns[wh]?=!bD)(hI:fns[wi]?=!(aO wh))
include hW hI
variable(rG:fns[it]?=!(fJ wi))(R4:fns[ri]?=!qR)(Am:fns[iw]?=!(eo wi it ri))(R5:fns[mb]?=!(bT iw cw))(hLe:fns[le]?=!(vG to))
include rG R4 Am R5
end
theorem YK(ha:Wb m a)(hb:Wb m b)(h:∀x,x∈a ↔ x∈b):a=b:=by
 have hp:=(An ha.nodup hb.nodup).mpr h;have e1:=dP (O:=dD) hp (ha.sZ.imp λ{x y} q=>iu.le_of_lt q)
 have e2:=dP (t0 b) (hb.sZ.imp λ{x y} q=>iu.le_of_lt (O:=dD) q)
 rw[e1,<- e2]
theorem YL(h:x∈t):gt t (t.idxOf x:Nat)=x:=by have hl:=List.idxOf_lt_length_iff.mpr h;unfold gt;rw[mE,dE,eA hl];exact List.getElem_idxOf hl
theorem oE(ht:Tn m t):∃v,Tn m v/\∀X,Wb m X->tw v (tw t X)=X:=by
 have hl:=ht.length;have idx:∀i:Int,0<=i/\i<m->(t.idxOf (gt t i):Int)=i:=λi hi=>by
  have hx:=ht.mem.mpr (ht.jW hi);have:=List.idxOf_lt_length_iff.mpr hx;exact ht.inj ⋯ hi (YL hx)
 have g:∀x:Int,0<=x/\x<m->gt (inv m t) x=(t.idxOf x:Nat):=λx h=>by
  have:x.toNat<m:=by lia
  unfold gt inv;simp[this];rw[show max x 0=x by lia]
 have im:inv m t=(nums m).map λx=>(t.idxOf x:Int):=by unfold inv nums;rw[List.map_map];rfl
 have tn:Tn m (inv m t):=by
  refine Tn.of ?_;have h1:(t.map λx=>(t.idxOf x:Int)).Perm ((nums m).map λx=>(t.idxOf x:Int)):=ht.perm.map _
  rw[<- im]at h1;have h2:(t.map λx=>(t.idxOf x:Int))=nums m:=by
   conv=>lhs;arg 2;rw[<- mz hl]
   rw[List.map_map]
   conv=>rhs;rw[<- List.map_id (nums m)]
   refine i7 λx hx=>?_
   exact idx x (jd.mp hx)
  rw[h2]at h1;exact h1.symm
 refine#[inv m t,tn,λX hX=>?_]
 rw[yh hX ht tn];refine tw_id hX λi hi=>?_
 have hi':i.toNat<t.length:=by lia
 have e:gt (t.map (gt (inv m t))) i=gt (inv m t) (gt t i):=by unfold gt;simp[hi']
 rw[e,g _ (ht.jW hi)];exact idx i hi
theorem Tn.then(ht:Tn m t)(hu:Tn m u):Tn m (t.map (gt u)):=by refine Tn.of ?_;have h1:(t.map (gt u)).Perm ((nums m).map (gt u)):=ht.perm.map _;rw[mz hu.length]at h1;exact h1.trans hu.perm
theorem rm{α:Type}(O:iu α):∀(l:List α) (n:α),fD O n l∈n::l
 | [],n=>AS n
 |m::l,n=>by
  have ih:=rm O l (if O.lt m n then m else n)
  show fD O (if O.lt m n then m else n) l∈n::m::l
  rcases eJ.mp ih with e |e
  .
   rw[e];by_cases h:O.lt m n=true
   . rw[eR h];exact bP _ b0
   . rw[eP h];exact b0
  . exact bP _ (bP _ e)
theorem Aw(hm:1<=m/\m<=6):ts.Sublist (prs m) ↔ Wb m ts:=by
 have fw:∀{ts: ~~~5},ts.Sublist (prs m)->Wb m ts:=λh=>#[λx hx=>by
  obtain⟨a,b,e,q⟩:=(jZ hm).1 x (h.subset hx);exact#[a,b,e,q],(Sf hm).sublist h,l4 h.length_le (jZ hm).2.2]
 refine#[fw,λh=>?_]
 have hs:((prs m).filter λx=>decide (x∈ts)).Sublist (prs m):=Bz
 have e:=YK h (fw hs) λx=>by
  rw[lL];constructor
  . intro hx;obtain⟨a,b,e,q⟩:=h.tie x hx;exact#[R9 #[a,b,e,q],i5 hx]
  . exact λhx=>i4 hx.2
 rw[e];exact hs
theorem YM:∀{a b: ~~~0},a.length=b.length->(∀i:Nat,i<a.length->gt a i=gt b i)->a=b:=λ{a b} hl h=>by
 refine AT hl λi h1 h2=>?_
 have:=h i h1;unfold gt at this;simpa [dE,h1,h2]using this
theorem MT(m:Nat)(ts: ~~~5)(i:Nat)(hi:i<m):gt (cn m ts) i=(ts.countP (has i):Nat):=by unfold gt cn;rw[mE,dE,l6,Bn hi];show ((nb (i:Int) ts).length:Int)=_;rw[vB]
theorem g8(hm:1<=t.length/\t.length<=6)(hn:∀x∈t,0<=x)(ts: ~~~5):ts∈aU t ↔ Wb t.length ts/\cn t.length ts=t:=by
 rw[G5 hm hn,Aw hm];refine and_congr_right λ_=>?_
 constructor
 .
  intro h;refine YM (qW _ _) λi hi=>?_
  rw[qW]at hi;rw[MT _ _ i hi,h i hi]
 . intro h i hi;have:=MT t.length ts i hi;rw[h]at this;exact this
def Ud:Fx:=#[1,3,[(.set 1 (.lst [(.tup [])])),(.loop (.nm 2) (.cz ⇑0) [(.setC 1 (.dG 3 3 (.nm 4) ⇑1 none (.nm 5) (.cz ⇑0) (!(.cmp .NotIn ⇑5 ⇑4)) (.bin .Add ⇑4 (.tup [⇑5]))))]),(.ret ⇑1)]]
def rq(mw at' le:Nat):Fx:=#[1,1,[(.expr (.call mw [⇑0])),(.ret (.blt .min [(.comp 1 2 (.nm 2) (.call at' [(.ix ⇑0 ↥0)]) none (.call le [⇑0,⇑2]))]))]]
theorem nG(m:Nat):∀(s:Nat) (r: ~~~0),r∈dW m s->r.length=s
 | 0,r,h=>by rw[fI.mp h];rfl
 |s+1,r,h=>by
  obtain⟨q,hq,h⟩:=x3.mp h;obtain⟨x,_,rfl⟩:=eC.mp h;rw[fA,nG m s q hq];rfl
def g9(m:Nat)(aj: ~~~5): ~~~5:=match (turnsOf m).map λt=>[(m:Int)]::tw t aj with
 |k::ks=>fD uP k ks
 | []=>[]
theorem mJ(hn:turnsOf m≠[]):∃t∈turnsOf m,g9 m aj=[(m:Int)]::tw t aj:=by
 unfold g9;cases e:turnsOf m with
 |nil=>exact absurd e hn
 |cons t l=>
  rw[List.map_cons];have:=rm uP (l.map λt=>[(m:Int)]::tw t aj) ([(m:Int)]::tw t aj)
  rw[<- List.map_cons (f:=λt=>[(m:Int)]::tw t aj)]at this
  obtain⟨u,hu,e2⟩:=eC.mp this;exact#[u,hu,e2.symm]
theorem yF(m:Nat):∀l:List (~~~5),(∀x∈l,∀y∈x,y≠[])->pY (l.map λx=>W m x)=!(l.map λx=>[(m:Int)]::x)
 | [],_=>rfl
 |x::l,h=>by
  have e:=x9 x (h x b0);rw[List.map_cons,List.map_cons];unfold pY;have e2:P9 (W m x)=!([(m:Int)]::x):=by
   show (match gW (x.map ∅)with |some ts=>!([(m:Int)]::ts) |none=>none)=_
   rw[e]
  rw[e2,yF m l λy hy=>h y (bP _ hy)]
theorem G7(m:Nat)(x: ~~~5)(l:List (~~~5)):bH ((x::l).map λx=>W m x)=none:=rfl
theorem G8(m:Nat)(x: ~~~5)(l:List (~~~5)):gW ((x::l).map λx=>W m x)=none:=by
 have:bH [D.int m,.tup (x.map ∅)]=none:=rfl
 show (match bH [D.int m,.tup (x.map ∅)],gW (l.map λx=>W m x)with |!(n::ns),!ur=>!((n::ns)::ur) |_,_=>none)=none
 simp only[this]
theorem Wb.ne(h:Wb m aj):∀y∈aj,y≠[]:=λy hy=>by
 obtain⟨a,b,rfl,_⟩:=h.tie y hy;exact List.cons_ne_nil _ _
theorem M7{m:Nat}(hm:1<=m/\m<=6){aj: ~~~5}(h:Wb m aj):jH .min [.lst ((turnsOf m).map λt=>W m (tw t aj))]=!(.dat (P8 (g9 m aj))):=by
 obtain⟨tl,tn⟩:=bh hm;have e0:((turnsOf m).map λt=>W m (tw t aj))=((turnsOf m).map λt=>tw t aj).map λx=>W m x:=by rw[List.map_map];rfl
 have e1:=yF m ((turnsOf m).map λt=>tw t aj) λx hx=>by
  obtain⟨t,ht,rfl⟩:=eC.mp hx;exact (h.turn (tl t ht)).ne
 rw[e0];unfold g9;have e2:((turnsOf m).map λt=>tw t aj).map (λx=>[(m:Int)]::x)=(turnsOf m).map λt=>[(m:Int)]::tw t aj:=by rw[List.map_map];rfl
 rw[e2]at e1;have iN:turnsOf m≠[]:=λz=>by
  have:=cX (RC m);rw[z]at this;cases this
 revert e1 iN;cases turnsOf m with
 |nil=>intro _ iN;exact absurd rfl iN
 |cons t l=>
  intro e1 _;have e3:=G7 m (tw t aj) (l.map λt=>tw t aj)
  have e4:=G8 m (tw t aj) (l.map λt=>tw t aj)
  simp only[List.map_cons]at e1 e3 e4 ⊢
  simp only[jH,QL,dJ,e3,e4,e1]
section
variable{k n:Nat}{g g1:G}{rn:Nat->Rn}{fns:List Fx}(U:gI fns rn)
include U
theorem Sh(m:Nat)(hm:m<=6)(l: ~~~5)(hl:l.length<=50000)(hr:∀r∈l,r.length<=10)(a2:Slot):(rn (n+20)).b [] k [(.setC 1 (.dG 3 3 (.nm 4) ⇑1 none (.nm 5) (.cz ⇑0) (!(.cmp .NotIn ⇑5 ⇑4)) (.bin .Add ⇑4 (.tup [⇑5]))))] [‹m›,.own (l.map λr=>~~~r),a2]=!(.nx,[‹m›,.own ((ext m l).map λr=>~~~r),a2]):=by
 have hg:bQ 0 m=(nums m).map .int:=yd m;have w:=Yx (rn:=rn (n+19)) (bor:=[]) (k:=k) (g:=[‹m›,.own (l.map λr=>~~~r),a2]) (g1:=[‹m›,.dat (.lst (l.map λr=>~~~r)),a2]) (nn:=3) (kk:=3) (j1:=4) (j2:=5) (lU:=.slot 1) (it:=.cz ⇑0) (c:=!(.cmp .NotIn ⇑5 ⇑4)) (e:=.bin .Add ⇑4 (.tup [⇑5])) l (λr=>~~~r) (nums m) .int (λr x=>(not (decide (x∈r)))) (λr x=>~~~(r++[x])) (by simp! [U,cN]) rfl ⋯ ⋯ ⋯ ⋯ ⋯ ⋯ ⋯ (by
   rw[qO];have:=Nat.mul_le_mul hl hm;exact l4 this ⋯) (λr hr G' hG=>by
   have h0:=hG.1 0 ⋯;simp! [U,cN,h0,aI m ⋯,hg]) (λr hr' x hx G' hG=>by
   simp! [U,nP,hG.2.1,hG.2.2,GK]) λr hr' x hx _ G' hG=>by
   have o:nO .Add (~~~r) (.tup [.int x])=!(.dat (~~~(r++[x]))):=by
    have hlr:(List.map D.int r).length+[D.int x].length<=lim:=ao _ (by have:=hr r hr';rw[d6];simp;lia)
    simp only[nO,K6,hlr,pV];rfl
   simp! [U,hG.2.1,hG.2.2,o,ao 1 ⋯]
 have e:(l.flatMap λr=>((nums m).filter λx=>(not (decide (x∈r)))).map λx=>~~~(r++[x]))=(ext m l).map λr=>~~~r:=by
  unfold ext;rw[List.map_flatMap]
  congr 1
  funext r
  rw[List.map_map];rfl
 rw[e]at w;simp! [U,w]
theorem Ue(m:Nat)(hm:1<=m/\m<=6):bA (rn (n+30)) k Ud [.int m]=!(.new ((turnsOf m).map λr=>~~~r)):=by
 obtain⟨g',⟨i,b2,hi,hl,rfl⟩,w⟩:=bM (T:=.nm 2) (b:=(rn (n+29)).b [] k [(.setC 1 (.dG 3 3 (.nm 4) ⇑1 none (.nm 5) (.cz ⇑0) (!(.cmp .NotIn ⇑5 ⇑4)) (.bin .Add ⇑4 (.tup [⇑5]))))]) (λ(j:Nat)=>D.int (j:Int))
  (I:=λl g=>∃(i:Nat) (b2:Slot),i<=m/\l=List.range' i (m - i)/\g=[‹m›,.own ((dW m i).map λr=>~~~r),b2])
  (step:=λa l g h=>by
   obtain⟨i,b2,hi,hl,rfl⟩:=h;cases hmi:m - i with
   |zero=>rw[hmi]at hl;cases hl
   |succ q=>
    rw[hmi]at hl;obtain⟨rfl,rfl⟩:=List.cons.inj hl;have h1:(dW m a).length<=50000:=l4 (nq m a) (l4 (Nat.pow_le_pow_left hm.2 a) (l4 (A7 ⋯ (show a<=6 by lia)) ⋯))
    have h2:∀r∈dW m a,r.length<=10:=λr hr=>by have:=nG m a r hr;lia
    exact#[_,_,rfl,Sh U m hm.2 (dW m a) h1 h2 (.dat (.int (a:Int))),a+1,_,by lia,by rw[show m - (a+1)=q by lia],rfl]) (List.range m) [‹m›,.own [.tup []],.no] #[0,.no,by lia,by rw[x4];rfl,rfl]
 have hmi:m - i=0:=by have:=congrArg List.length hl;rw[List.length_range']at this;exact this.symm
 have hi':i=m:=by lia
 subst hi';generalize hb:(rn (n+29)).b [] k [(.setC 1 (.dG 3 3 (.nm 4) ⇑1 none (.nm 5) (.cz ⇑0) (!(.cmp .NotIn ⇑5 ⇑4)) (.bin .Add ⇑4 (.tup [⇑5]))))]=bb at w;unfold bA Ud turnsOf;simp! [U,cN,aI (i:Int) ⋯,bQ,hb,w,ao 1 ⋯]
variable{wh wi it ri iw cw mw pa ft op ro fi tt le to at':Nat}(hW:fns[wh]?=!bD)(hI:fns[wi]?=!(aO wh))(rG:fns[it]?=!(fJ wi))(R4:fns[ri]?=!qR)(Am:fns[iw]?=!(eo wi it ri))(R5:fns[mw]?=!(bT iw cw))
include hW hI rG R4 Am R5
theorem Si(Zr:fns[to]?=!jh)(hLe:fns[le]?=!(vG to))(hAt:fns[at']?=!Ud)(m:Nat)(hm:1<=m/\m<=6)(aj: ~~~5)(h:Wb m aj):bA (rn (n+80)) (k+7) (rq mw at' le) [W m aj]=!(.dat (P8 (g9 m aj))):=by
 obtain⟨tl,tn⟩:=bh hm;have y:=λn k=>jY (ci:=cw) U hW hI rG R4 Am (n:=n) (k:=k) m aj hm h
 have qa:=λn k=>Ue U (n:=n) (k:=k) m hm
 have i0:CV (W m aj) (.int 0)=!(.int m):=rfl;have w:=kU (rn:=rn (n+77)) (bor:=[]) (k:=k+7) (g:=[.dat (W m aj)]) (g1:=[.dat (W m aj)]) (kk:=2) (nn:=1) (j:=2) (it:=.call at' [(.ix ⇑0 ↥0)]) (e:=.call le [⇑0,⇑2]) (turnsOf m) (λt=>~~~t) (λt=>W m (tw t aj)) (by simp! [U,cN,i0,hAt,az (fx:=Ud) rfl,qa]) rfl ⋯ ⋯ ⋯ (ao _ ⋯) λt ht G' hG=>by
  have h0:=hG.1 0 ⋯;have q:=λn k=>MP U Zr (n:=n) (k:=k) m aj t h (tl t ht)
  simp! [U,h0,hG.2,hLe,bu (fx:=vG to) rfl,q]
 have mn:=M7 hm h;unfold bA rq;simp! [U,R5,az (fx:=bT iw cw) rfl,y,w,mn]
end
theorem Dt{α:Type}(O:iu α):∀(l:List α) (n x:α),x∈n::l->O.lt x (fD O n l)=false
 | [],n,x,h=>by rw[fI.mp h];exact O.irr n
 |m::l,n,x,h=>by
  show O.lt x (fD O (if O.lt m n then m else n) l)=false
  have ih:=Dt O l (if O.lt m n then m else n)
  have i0:=ih _ b0;by_cases hx:x∈l
  . exact ih x (bP _ hx)
  .
   generalize fD O (if O.lt m n then m else n) l=q at i0 ih ⊢
   cases e:O.lt x q with
   |false=>rfl
   |true=>
    exfalso;by_cases hmn:O.lt m n=true
    .
     rw[eR hmn]at i0;rcases eJ.mp h with rfl |h
     . rw[O.tr _ _ _ hmn e]at i0;cases i0
     .
      rcases eJ.mp h with rfl |h
      . rw[e]at i0;cases i0
      . exact hx h
    .
     have hmn:O.lt m n=false:=by simpa using hmn
     rw[eP (by rw[hmn];exact t6)]at i0
     rcases eJ.mp h with rfl |h
     . rw[e]at i0;cases i0
     .
      rcases eJ.mp h with rfl |h
      .
       cases e2:O.lt q n with
       |false=>rw[O.tot _ _ e2 i0]at e;rw[hmn]at e;cases e
       |true=>rw[O.tr _ _ _ e e2]at hmn;cases hmn
      . exact hx h
theorem yG(ht:t∈turnsOf m):uP.lt ([(m:Int)]::tw t aj) (g9 m aj)=false:=by
 unfold g9;cases e:turnsOf m with
 |nil=>rw[e]at ht;cases ht
 |cons u l=>
  refine Dt uP _ _ _ ?_;rw[<- List.map_cons (f:=λt=>[(m:Int)]::tw t aj)]
  exact eC.mpr #[t,e▸ht,rfl]
theorem Ax(hn:turnsOf m≠[])(h1:∀t∈turnsOf m,∃u∈turnsOf m,tw t x=tw u y)(h2:∀t∈turnsOf m,∃u∈turnsOf m,tw t y=tw u x):g9 m x=g9 m y:=by
 obtain⟨t,ht,e1⟩:=mJ hn;obtain⟨u,hu,e2⟩:=mJ hn;obtain⟨t',ht',e3⟩:=h1 t ht;obtain⟨u',hu',e4⟩:=h2 u hu;refine uP.tot _ _ ?_ ?_
 . rw[e1,e3];exact yG ht'
 . rw[e2,e4];exact yG hu'
theorem M8(hm:1<=m/\m<=6)(hx:Wb m x)(hs:Tn m s):g9 m (tw s x)=g9 m x:=by
 have tn:=(bh hm).1;refine Ax (λz=>?_) (λt ht=>?_) λt ht=>?_
 . have:=cX hs;rw[z]at this;cases this
 . exact#[_,cX (hs.then (tn t ht)),yh hx hs (tn t ht)]
 .
  obtain⟨v,hv,hb⟩:=oE hs;refine#[_,cX (hv.then (tn t ht)),?_]
  rw[<- yh (hx.turn hs) hv (tn t ht),hb x hx]
def rY(m:Nat)(x: ~~~5): ~~~5:=(g9 m x).tail
section
variable{m:Nat}(hm:1<=m/\m<=6)
include hm
theorem Ay:turnsOf m≠[]:=by
 have:decide (turnsOf m≠[])=true:=by apply six hm <;> decide +kernel
 exact i4 this
theorem mL(x: ~~~5):∃t∈turnsOf m,rY m x=tw t x/\g9 m x=[(m:Int)]::rY m x:=by
 obtain⟨t,ht,e⟩:=mJ (Ay hm);refine#[t,ht,?_,?_]
 . unfold rY;rw[e];rfl
 . unfold rY;rw[e];rfl
theorem Az(hx:Wb m x):Wb m (rY m x):=by obtain⟨t,ht,e,_⟩:=mL hm x;rw[e];exact hx.turn ((bh hm).1 t ht)
theorem rz(hx:Wb m x)(hs:Tn m s):rY m (tw s x)=rY m x:=by unfold rY;rw[M8 hm hx hs]
theorem vH(hx:Wb m x):rY m (rY m x)=rY m x:=by obtain⟨t,ht,e,_⟩:=mL hm x;have:=rz hm hx ((bh hm).1 t ht);rw[e,this,e]
theorem G9(hx:Wb m x)(hf:Wb m f):(∃s∈turnsOf m,x=tw s f) ↔ rY m x=rY m f:=by
 have tn:=(bh hm).1;constructor
 . rintro⟨s,hs,rfl⟩;exact rz hm hf (tn s hs)
 .
  intro h;obtain⟨t,ht,e1,_⟩:=mL hm x;obtain⟨u,hu,e2,_⟩:=mL hm f;obtain⟨v,hv,hb⟩:=oE (tn t ht);refine#[_,cX ((tn u hu).then hv),?_]
  rw[<- yh hf (tn u hu) hv,<- e2,<- h,e1,hb x hx]
end
theorem Du{β:Type} [DecidableEq β] (b:β):∀K:List β,K.Nodup->(K.map λk=>if b=k then 1 else 0).sum=if b∈K then 1 else 0
 | [],_=>rfl
 |k::K,h=>by
  rw[gN]at h;rw[List.map_cons,x5,Du b K h.2];by_cases e:b=k
  . subst e;rw[eR rfl,eP h.1,eR b0]
  .
   rw[eP e];by_cases e2:b∈K
   . rw[eR e2,eR (bP _ e2)]
   . rw[eP e2,eP λq=>(eJ.mp q).elim e e2]
theorem sum_add{β:Type}(f g:β->Nat):∀K:List β,(K.map λk=>f k+g k).sum=(K.map f).sum+(K.map g).sum
 | []=>rfl
 |k::K=>by
  rw[List.map_cons,List.map_cons,List.map_cons,x5,x5,x5,sum_add f g K];lia
theorem mO{α β:Type} [DecidableEq β] (g:α->β) (K:List β) (hK:K.Nodup):∀l:List α,(∀y∈l,g y∈K)->(K.map λk=>l.countP λy=>decide (g y=k)).sum=l.length
 | [],_=>by
  induction K with
  |nil=>rfl
  |cons k K ih=>rw[List.map_cons,x5,ih (gN.mp hK).2 (λ_ h=>nomatch h)];rfl
 |y::l,h=>by
  have e:(K.map λk=>(y::l).countP λy=>decide (g y=k))=K.map λk=>(l.countP λy=>decide (g y=k))+if g y=k then 1 else 0:=i7 λk _=>by
   by_cases q:g y=k <;> simp[q]
  rw[e,sum_add,mO g K hK l λx hx=>h x (bP _ hx),Du _ K hK,eR (h y b0),hV]
theorem Ba{α:Type} [DecidableEq α] {l m:List α}{P Q:α->Bool} (hl:l.Nodup) (hm:m.Nodup) (h:∀y,(y∈l/\P y=true) ↔ (y∈m/\Q y=true)):l.countP P=m.countP Q:=by
 rw[yA,yA];refine List.Perm.length_eq ((An (hl.sublist Bz) (hm.sublist Bz)).mpr λy=>?_)
 rw[lL,lL];exact h y
theorem Hf{t: ~~~0}(hm:1<=t.length/\t.length<=6)(hn:∀x∈t,0<=x){K:List (~~~5)}(hK:K.Nodup)(hmem:∀f,f∈K ↔ ∃x∈aU t,f=rY t.length x)
  (A: ~~~5->List (~~~5)) (hA:∀f∈K,(A f).Nodup/\∀y,y∈A f ↔ ∃s∈turnsOf t.length,y=tw s f) :
  (K.map λf=>(A f).countP λy=>decide (cn t.length y=t)).sum=(aU t).length:=by
 rw[<- mO (rY t.length) K hK (aU t) λy hy=>(hmem _).mpr #[y,hy,rfl]]
 congr 1
 refine i7 λf hf=>?_
 obtain⟨x,hx,rfl⟩:=(hmem f).mp hf;obtain⟨wx,_⟩:=(g8 hm hn x).mp hx;obtain⟨a1,a2⟩:=hA _ hf;refine Ba a1 (yE hm) λy=>?_
 rw[a2,g8 hm hn,decide_eq_true_iff,decide_eq_true_iff];constructor
 . rintro⟨⟨s,hs,rfl⟩,h⟩;have ht:=(bh hm).1 s hs;have wf:=Az hm wx;exact#[#[wf.turn ht,h],by rw[rz hm wf ht,vH hm wx]]
 . rintro⟨⟨wy,h⟩,e⟩;exact#[(G9 hm wy (Az hm wx)).mpr (by rw[e,vH hm wx]),h]
theorem YQ{m:Nat}{s: ~~~0}(hs:Tn m s){p: ~~~0}(hp:Pr m p){i:Int}(hi:0<=i/\i<m):has (gt s i) (tm s p)=has i p:=by
 obtain⟨a,b,rfl,h0,hab,hbm⟩:=hp;have ia:gt s a=gt s i ↔ a=i:=#[λe=>hs.inj ⋯ hi e,λe=>by rw[e]]
 have ib:gt s b=gt s i ↔ b=i:=#[λe=>hs.inj ⋯ hi e,λe=>by rw[e]]
 rw[dj];unfold has;have g0:∀x y:Int,gt [x,y] 0=x:=λ_ _=>rfl
 have g1:∀x y:Int,gt [x,y] 1=y:=λ_ _=>rfl
 split
 . rw[g0,g1,g0,g1,x0.mpr ia,x0.mpr ib]
 . rw[g0,g1,g0,g1,x0.mpr ia,x0.mpr ib,Bool.or_comm]
theorem yH{m:Nat}{s: ~~~0}(hs:Tn m s){x: ~~~5}(hx:∀p∈x,Pr m p){i:Int}(hi:0<=i/\i<m):(tw s x).countP (has (gt s i))=x.countP (has i):=by
 unfold tw;rw[(aQ _).countP_eq,List.countP_map];exact List.countP_congr λp hp=>by
  show has (gt s i) (tm s p)=true ↔ _;rw[YQ hs (hx p hp) hi]
theorem vI(m:Nat)(x: ~~~5):cn m x=(nums m).map λi=>((x.countP (has i):Nat):Int):=by unfold cn nums;rw[List.map_map];exact i7 λi _=>by show ((nb (i:Int) x).length:Int)=_;rw[vB];rfl
theorem cn_tw{m:Nat}{s: ~~~0}(hs:Tn m s){x: ~~~5}(hx:Wb m x):(cn m (tw s x)).Perm (cn m x):=by
 have e:cn m x=s.map λi=>(((tw s x).countP (has i):Nat):Int):=by
  have q:(s.map λi=>(((tw s x).countP (has i):Nat):Int))=((nums m).map (gt s)).map λi=>(((tw s x).countP (has i):Nat):Int):=by rw[mz hs.length]
  rw[vI,q,List.map_map];refine i7 λi hi=>?_
  show _=(((tw s x).countP (has (gt s i)):Nat):Int);rw[yH hs (λp hp=>by obtain⟨a,b,e,q⟩:=hx.tie p hp;exact#[a,b,e,q]) (jd.mp hi)]
 rw[e,vI m (tw s x)];exact (hs.perm.symm.map _)
theorem M9(hs:Tn m s)(hx:Wb m x):jJ m (tw s x)=jJ m x:=by unfold jJ;rw[dN ((aZ _).trans (cn_tw hs hx)) (dc _)]
theorem Nb(h:cn m x=t)(ht:t.Pairwise (· ≥ ·)):jJ m x=t:=by unfold jJ;rw[h];have:=dN (List.reverse_perm t) (AC.mpr ht);rw[<- this,Cn]
noncomputable def yI:Nat->Nat->List (~~~0)
 | 0,_=>[[]]
 |n+1,top=>(List.range (top+1)).flatMap λ(v:Nat)=>(yI n v).map ((v:Int) :: ·)
theorem ju:∀(t: ~~~0) (top:Nat),t.Pairwise (· ≥ ·)->(∀x∈t,0<=x/\x<=top)->t∈yI t.length top
 | [],_,_,_=>fI.mpr rfl
 |x::t,top,h,hx=>by
  have h1:=hx x b0;obtain⟨v,rfl⟩:∃v:Nat,x=v:=#[x.toNat,by lia]
  refine x3.mpr #[v,lS.mpr ⋯,eC.mpr #[t,ju t v (oC.mp h).2 λy hy=>?_,rfl]]
  exact#[(hx y (bP _ hy)).1,(oC.mp h).1 y hy]
set_option maxHeartbeats 4000000 in
theorem YS:([1,2,3,4,5].all λn=>(yI n (n - 1)).all λt=>decide (kF (uc t)=(not ((aU t).isEmpty))))=true:=by decide +kernel
theorem Dw(h:yy t)(h5:t.length<=5):kF (uc t)=(not ((aU t).isEmpty)):=by
 have h1:=h.l1;have hm:t.length∈[1,2,3,4,5]:=by
  have:t.length=1\/t.length=2\/t.length=3\/t.length=4\/t.length=5:=by lia
  rcases this with e |e |e |e |e <;> rw[e] <;> decide
 have:=hZ.mp YS _ hm;exact i4 (hZ.mp this t (ju t _ h.s λx hx=>by have:=h.r.2 x hx;lia))
open Nk
theorem Nc(k:Kt):yV (dT k)=!k:=by
 induction k with
 |nil=>rfl
 |ci i r ih=>show yV (.int i::dT r)=_;unfold yV pkE;rw[ih]
 |ct a r ia ih=>show yV (.tup (dT a)::dT r)=_;unfold yV pkE;rw[ia,ih]
theorem YT(k:Pn):pnT (dT k.1)=!k:=by unfold pnT;rw[Nc];dsimp only;rw[dif_pos k.2]
def fZ(ks:List Pn)(l:List Pn):List Pn:=l.foldl fF ks
theorem yJ(ks:List Pn)(k:Pn):(fF ks k).length<=ks.length+1:=by
 unfold fF;split
 . exact y4 _
 . simp
section
variable{bor:List Nat}{k:Nat}{g g1:G}{rn:Rn}
theorem Dy{α:Type}(cR:α->D)(f:α->Pn)(h1:g.length<=j)(h2:j<g.length+kk)
  : ∀(xs:List α) (ks:List Pn) (m:G),m.length=kk->ks.length+xs.length<=1000->
  (∀a∈xs,∀G',qL g j (cR a) G'->fT rn bor k e G'=!(dK (f a),G'))->
  ∃m',m'.length=kk/\Xc rn bor k (.nm j) none e (xs.map cR) ks (g++m)=!(fZ ks (xs.map f),g++m')
 | [],ks,m,hm,_,_=>#[m,hm,rfl]
 |a::xs,ks,m,hm,hl,he=>by
  rw[hV]at hl;have q1:(Tg.nm j).set (cR a) (g++m)=!(g++m.set (j - g.length) (.dat (cR a))):=by show some ((g++m).set j (.dat (cR a)))=_;rw[AE _ _ h1]
  have hm1:(m.set (j - g.length) (.dat (cR a))).length=kk:=by simpa using hm
  have s:qL g j (cR a) (g++m.set (j - g.length) (.dat (cR a))):=#[λi hi=>dL hi,by
   rw[eI h1,gL ⋯]]
  have q2:=he a b0 _ s;have hk:=yJ ks (f a);obtain⟨m3,v1,v2⟩:=Dy cR f h1 h2 xs (fF ks (f a)) _ hm1 ⋯ (λx hx=>he x (bP _ hx))
  refine#[m3,v1,?_];rw[List.map_cons];unfold Xc;rw[q1];dsimp only[nP];rw[q2];dsimp only[dK];rw[YT];dsimp only;rw[eR ⋯];exact v2
theorem ug{α:Type}(xs:List α)(cR:α->D)(f:α->Pn)(hw:cN rn bor k false it g=!(xs.map cR,g1))(hn:nn=g1.length)(h1:g1.length<=j)(h2:j<g1.length+kk)(hb:j∉bor)(hl:xs.length<=1000)(hg:K1 (fZ [] (xs.map f))=true)
  (he:∀a∈xs,∀G',qL g1 j (cR a) G'->fT rn bor k e G'=!(dK (f a),G')) :
  lX rn bor k nn kk (.nm j) it none e g=!(fZ [] (xs.map f),g1):=by
 subst hn;obtain⟨m',w1,w2⟩:=Dy (kk:=kk+1) cR f h1 ⋯ xs [] (List.replicate (kk+1) .no) ⋯ (by simpa using hl) he
 unfold lX;rw[show Tg.iC (.nm j)=false from rfl,hw]
 dsimp only;rw[eR #[rfl,by simp[Tg.ix,hb]]]
 unfold gD;rw[w2];dsimp only;rw[eR hg,List.take_left]
end
def rA: ~~~0->Nk.Kt
 | []=>.nil
 |x::l=>.ci x (rA l)
def eH: ~~~5->Nk.Kt
 | []=>.nil
 |x::l=>.ct (rA x) (eH l)
theorem Dz:∀l:List Int,Nk.dT (rA l)=l.map .int
 | []=>rfl
 |x::l=>by show D.int x::Nk.dT (rA l)=_;rw[Dz l];rfl
theorem lq:∀l:List (~~~0),Nk.dT (eH l)=l.map ∅
 | []=>rfl
 |x::l=>by show D.tup (Nk.dT (rA x))::Nk.dT (eH l)=_;rw[Dz x,lq l];rfl
theorem yK:∀l:List Int,Nk.dep (rA l)=0
 | []=>rfl
 |_::l=>yK l
theorem uh:∀l:List (~~~0),Nk.dep (eH l)<=1
 | []=>o4 _
 |x::l=>by
  show max (Nk.dep (rA x)+1) (Nk.dep (eH l))<=1;have:=uh l;rw[yK];lia
def cC(m:Nat)(aj: ~~~5):Nk.Pn:=#[.ci m (.ct (eH aj) .nil),by
 show max (Nk.dep (eH aj)+1) 0<=3;have:=uh aj;lia]
theorem vJ(m:Nat)(aj: ~~~5):Nk.dK (cC m aj)=W m aj:=by show D.tup [.int m,.tup (Nk.dT (eH aj))]=_;rw[lq];rfl
def nU(ks:List Nk.Pn):List D:=(aN Nk.fM (ks.map (·.1))).map Hy
def Hg:Fx:=#[2,2,[(.ite (.cmp .Gt ⇑0 ⇑1) [.stuck] [])]]
noncomputable def dY(mc fw:Nat):Fx:=#[2,2,[(.expr (.call mc [⇑0])),(.expr (.call fw [(.blt .len [⇑0]),⇑1]))]]
noncomputable def gf(mf wa:Nat):Fx:=#[1,1,[(.expr (.call mf [⇑0,↥6])),(.ret (.blt .len [(.call wa [⇑0])]))]]
noncomputable def jv(mf wa:Nat):Fx:=#[1,1,[(.expr (.call mf [⇑0,↥6])),(.ret (.minD (.call wa [⇑0])))]]
def kindsX(mf wa fo:Nat):Fx:=#[1,1,[(.expr (.call mf [⇑0,↥5])),(.ret (.tH 1 2 (.nm 2) (.call wa [⇑0]) none (.call fo [⇑2])))]]
def Hh(mw at' le:Nat):Fx:=#[1,1,[(.expr (.call mw [⇑0])),(.ret (.tH 1 2 (.nm 2) (.call at' [(.ix ⇑0 ↥0)]) none (.call le [⇑0,⇑2])))]]
section
variable{k n:Nat}{rn:Nat->Rn}{fns:List Fx}(U:gI fns rn)
include U
theorem YW(i m:Int)(h:i<=m):bA (rn (n+10)) k Hg [.int i,.int m]=!(.dat .non):=by
 have c:cY .Gt (.int i) (.int m)=!(decide (i > m)):=rfl;have d : ¬ i > m:=by lia
 unfold bA Hg;simp! [U,d]
variable{w wi fa ic mu ci fw mf wa wo pa:Nat}(hW:fns[w]?=!bD)(hI:fns[wi]?=!(aO w))(hF:fns[fa]?=!je)(hC:fns[ic]?=!(aY wi fa))(hM:fns[mu]?=!(bw ic ci))(hFw:fns[fw]?=!Hg)
include hW hI hF hC hM hFw
theorem j5(t: ~~~0)(h:yy t)(m:Int)(hm:(t.length:Int)<=m):bA (rn (n+60)) (k+4) (dY mu fw) [~~~t,.int m]=!(.dat .non):=by
 have q1:=λn k=>mC U hW hI hF hC (ci:=ci) (n:=n) (k:=k) t h
 have q2:=λn k=>YW U (n:=n) (k:=k) (t.length:Int) m hm
 unfold bA dY;simp! [U,hM,az (fx:=bw ic ci) rfl,q1,hFw,bu (fx:=Hg) rfl,q2]
variable(hMf:fns[mf]?=!(dY mu fw))(hWa:fns[wa]?=!(fY pa wo))(Uc:fns[wo]?=!YD)(hPa:fns[pa]?=!Av)
include hMf hWa Uc hPa
theorem um(t: ~~~0)(h:yy t)(h6:t.length<=6):bA (rn (n+90)) (k+6) (gf mf wa) [~~~t]=!(.dat (.int ((aU t).length:Int))):=by
 have q1:=λn k=>j5 U hW hI hF hC hM hFw (n:=n) (k:=k) t h 6 ⋯
 have q2:=λn k=>mH U Uc (n:=n) (k:=k) hPa t #[h.l1,h6]
 unfold bA gf;simp! [U,hMf,bu (fx:=dY mu fw) rfl,q1,hWa,az (fx:=fY pa wo) rfl,q2]
theorem uo(t: ~~~0)(h:yy t)(h6:t.length<=6)(x:D)(hx:tG (.lst ((aU t).map λts=>W t.length ts))=!x):bA (rn (n+90)) (k+6) (jv mf wa) [~~~t]=!(.dat x):=by
 have q1:=λn k=>j5 U hW hI hF hC hM hFw (n:=n) (k:=k) t h 6 ⋯
 have q2:=λn k=>mH U Uc (n:=n) (k:=k) hPa t #[h.l1,h6]
 unfold bA jv;simp! [U,hMf,bu (fx:=dY mu fw) rfl,q1,hWa,az (fx:=fY pa wo) rfl,q2,hx]
theorem kinds_ok(hFo:fns[fo]?=!foX)(hp:foX.np=1)(fm: ~~~5->List (~~~0))(t: ~~~0)(h:yy t)(h5:t.length<=5)(hl:(aU t).length<=1000)
  (q:∀ts∈aU t,∀n k,bA (rn (n+80)) (k+7) foX [W t.length ts]=!(.dat (W t.length (fm ts))))
  (hg:Nk.K1 (fZ [] ((aU t).map λts=>cC t.length (fm ts)))=true):bA (rn (n+90)) (k+9) (kindsX mf wa fo) [~~~t]=!(.new (nU (fZ [] ((aU t).map λts=>cC t.length (fm ts))))):=by
 have q1:=λn k=>j5 U hW hI hF hC hM hFw (n:=n) (k:=k) t h 5 ⋯
 have q2:=λn k=>mH U Uc (n:=n) (k:=k) hPa t #[h.l1,by lia]
 have s:=ug (rn:=rn (n+88)) (bor:=[]) (k:=k+9) (g:=[.dat (~~~t)]) (g1:=[.dat (~~~t)]) (kk:=2) (nn:=1) (j:=2) (it:=.call wa [⇑0]) (e:=.call fo [⇑2]) (aU t) (λts=>W t.length ts) (λts=>cC t.length (fm ts)) (by simp! [U,cN,hWa,az (fx:=fY pa wo) rfl,q2]) rfl ⋯ ⋯ ⋯ hl hg λts ht G' hG=>by
  have qq:=q ts ht;rw[vJ];simp! [U,hG.2,hFo,az hp,qq]
 unfold bA kindsX nU;simp! [U,hMf,bu (fx:=dY mu fw) rfl,q1,s]
end
theorem DG:∀a b:List Int,Nk.vP (rA a) (rA b)=true
 | [],_=>rfl
 |_::_,[]=>rfl
 |_::a,_::b=>DG a b
theorem yL:∀a b:List (~~~0),Nk.vP (eH a) (eH b)=true
 | [],_=>rfl
 |_::_,[]=>rfl
 |x::a,y::b=>by
  show (Nk.vP (rA x) (rA y)&&Nk.vP (eH a) (eH b))=true;rw[DG,yL];rfl
theorem Nf(m:Nat)(x y: ~~~5):Nk.vP (cC m x).1 (cC m y).1=true:=by show (Nk.vP (eH x) (eH y)&&true)=true;rw[yL];rfl
theorem Hi:∀{a b: ~~~5},eH a=eH b->a=b:=λ{a b} h=>by
 have h:=congrArg Nk.dT h;rw[lq,lq]at h;have inj:∀{x y: ~~~0},D.tup (x.map D.int)=D.tup (y.map D.int)->x=y:=λ{x y} e=>by
  injection e with e;exact (List.map_inj_right λa b h=>by injection h).mp e
 exact (List.map_inj_right λ_ _ h=>inj h).mp h
theorem rB(h:cC m x=cC m y):x=y:=by have h:=congrArg Subtype.val h;injection h with _ h;injection h with h _;exact Hi h
theorem yM(hk:∀k∈ks,∃x,k=cC m x)(hl:ks.length<64):Nk.K1 ks=true:=by
 unfold Nk.K1;rw[eM];refine#[i5 hl,hZ.mpr λa ha=>?_]
 obtain⟨x,rfl⟩:=hk a ha;rw[eM];refine#[rfl,hZ.mpr λb hb=>?_]
 obtain⟨y,rfl⟩:=hk b hb;exact Nf m x y
theorem cD:∀(l ks:List Nk.Pn),k∈fZ ks l ↔ k∈ks\/k∈l
 | [],ks=>by show k∈ks ↔ _;simp
 |a::l,ks=>by
  show k∈fZ (Nk.fF ks a) l ↔ _;rw[cD l (Nk.fF ks a),eJ];unfold Nk.fF;split
  .
   rename_i h;constructor
   .
    rintro (q |q)
    . exact .inl q
    . exact .inr (.inr q)
   .
    rintro (q |rfl |q)
    . exact .inl q
    . exact .inl h
    . exact .inr q
  .
   rw[o5,fI];constructor
   .
    rintro ((q |q) |q)
    . exact .inl q
    . exact .inr (.inl q)
    . exact .inr (.inr q)
   .
    rintro (q |q |q)
    . exact .inl (.inl q)
    . exact .inl (.inr q)
    . exact .inr q
theorem gg:∀(l ks:List Nk.Pn),ks.Nodup->(fZ ks l).Nodup
 | [],_,h=>h
 |a::l,ks,h=>by
  refine gg l (Nk.fF ks a) ?_;unfold Nk.fF;split
  . exact h
  .
   rename_i hn;rw[oT];refine#[h,by simp,λx hx y hy=>?_]
   rw[fI.mp hy];rintro rfl;exact hn hx
def j6(m:Nat)(aj: ~~~5):List Nk.Pn:=fZ [] ((turnsOf m).map λt=>cC m (tw t aj))
section
variable{k n:Nat}{rn:Nat->Rn}{fns:List Fx}(U:gI fns rn)
include U
variable{wh wi it ri iw cw mw to le at':Nat}(hW:fns[wh]?=!bD)(hI:fns[wi]?=!(aO wh))(rG:fns[it]?=!(fJ wi))(R4:fns[ri]?=!qR)(Am:fns[iw]?=!(eo wi it ri))(R5:fns[mw]?=!(bT iw cw))
include hW hI rG R4 Am R5
theorem YX(Zr:fns[to]?=!jh)(hLe:fns[le]?=!(vG to))(hAt:fns[at']?=!Ud)(m:Nat)(hm:1<=m/\m<=6)(aj: ~~~5)(h:Wb m aj)(hg:Nk.K1 (j6 m aj)=true):bA (rn (n+80)) (k+7) (Hh mw at' le) [W m aj]=!(.new (nU (j6 m aj))):=by
 obtain⟨tl,tn⟩:=bh hm;have y:=λn k=>jY (ci:=cw) U hW hI rG R4 Am (n:=n) (k:=k) m aj hm h
 have qa:=λn k=>Ue U (n:=n) (k:=k) m hm
 have i0:CV (W m aj) (.int 0)=!(.int m):=rfl;have s:=ug (rn:=rn (n+78)) (bor:=[]) (k:=k+7) (g:=[.dat (W m aj)]) (g1:=[.dat (W m aj)]) (kk:=2) (j:=2) (it:=.call at' [(.ix ⇑0 ↥0)]) (e:=.call le [⇑0,⇑2]) (turnsOf m) (λt=>~~~t) (λt=>cC m (tw t aj)) (by simp! [U,cN,i0,hAt,az (fx:=Ud) rfl,qa]) rfl ⋯ ⋯ ⋯ ⋯ hg λt ht G' hG=>by
  have h0:=hG.1 0 ⋯;have q:=λn k=>MP U Zr (n:=n) (k:=k) m aj t h (tl t ht)
  rw[vJ];simp! [U,h0,hG.2,hLe,bu (fx:=vG to) rfl,q]
 have s':lX (rn (n+78)) [] (k+7) 1 2 (.nm 2) (.call at' [(.ix ⇑0 ↥0)]) none (.call le [⇑0,⇑2]) [.dat (W m aj)]=!(j6 m aj,[.dat (W m aj)]):=s;unfold bA Hh nU;simp! [U,R5,az (fx:=bT iw cw) rfl,y,s']
end
theorem twice{α β:Type} [DecidableEq β] (f:α->β) (Y:α->α) (l:List α) (hl:l.Nodup) (hσ:∀t∈l,Y t∈l/\Y t≠t/\f (Y t)=f t) (K:List β) (hK:K.Nodup) (hm:∀v∈K,∃t∈l,f t=v) (hall:∀t∈l,f t∈K):2 * K.length<=l.length:=by
 rw[<- mO f K hK l hall];have two:∀v∈K,2<=l.countP λy=>decide (f y=v):=λv hv=>by
  obtain⟨t,ht,rfl⟩:=hm v hv;obtain⟨h1,h2,h3⟩:=hσ t ht;rw[yA];have nd:[t,Y t].Nodup:=by simp[wP h2]
  have:=nd.length_le_of_subset (l₂:=l.filter λy=>decide (f y=f t)) λx hx=>by
   rw[lL];rcases eJ.mp hx with rfl |hx
   . exact#[ht,i5 rfl]
   . rw[fI.mp hx];exact#[h1,i5 h3]
  exact this
 clear hm hall hK
 induction K with
 |nil=>exact o4 _
 |cons k K ih=>
  have:=ih λv hv=>two v (bP _ hv)
  have h0:=two k b0;rw[List.map_cons,x5,hV];lia
theorem rC:∀(l ks:List Nk.Pn),(fZ ks l).length<=ks.length+l.length
 | [],_=>eD _
 |a::l,ks=>by
  have h1:=rC l (Nk.fF ks a);have h2:=yJ ks a;show (fZ (Nk.fF ks a) l).length<=_;rw[hV];lia
theorem Ng:(turnsOf 5).Nodup/\(turnsOf 5).length=120:=by
 have:decide ((turnsOf 5).Nodup/\(turnsOf 5).length=120)=true:=by decide +kernel
 exact i4 this
theorem Sj(hx:Wb 5 x)(ha:Tn 5 a)(iN:a≠nums 5)(hown:tw a x=x):(j6 5 x).length<64:=by
 have tn:=(bh (m:=5) #[by decide,by decide]).1
 have key:2 * (j6 5 x).length<=(turnsOf 5).length:=by
  refine twice (λt=>cC 5 (tw t x)) (λt=>a.map (gt t)) (turnsOf 5) Ng.1 (λt ht=>#[cX (ha.then (tn t ht)),λe=>iN ?_,?_]) (j6 5 x) (gg _ _ qS) (λv hv=>?_) λt ht=>?_
  .
   have h1:=tn t ht;have e:=e.trans (mz h1.length).symm;have hl:a.length=(nums 5).length:=by rw[ha.length];rfl
   refine AT hl λi i1 i2=>?_
   have q:gt t a[i]=gt t (nums 5)[i]:=by
    have:=congrArg (λl:List Int=>l[i]?) e
    simpa [i1,i2]using this
   exact h1.inj (ha.mem.mp (oP i1)) (jd.mp (oP i2)) q
  . show cC 5 (tw (a.map (gt t)) x)=cC 5 (tw t x);rw[<- yh hx ha (tn t ht),hown]
  .
   rcases (cD _ _).mp hv with h |h
   . symm
   . obtain⟨t,ht,e⟩:=eC.mp h;exact#[t,ht,e]
  . exact (cD _ _).mpr (.inr (eC.mpr #[t,ht,rfl]))
 rw[Ng.2]at key;lia
noncomputable def subs{α:Type}:List α->List (List α)
 | []=>[[]]
 |a::l=>subs l++(subs l).map (a :: ·)
theorem rD{α:Type}:∀{l s:List α},s.Sublist l->s∈subs l
 | [],s,h=>by rw[List.sublist_nil.mp h];exact fI.mpr rfl
 |a::l,s,h=>by
  cases h with
  |cons _ h=>exact oD _ (rD h)
  |cons_cons _ h=>exact i6 _ (eC.mpr #[_,rD h,rfl])
noncomputable def cands: ~~~5:=[[1,0,2,3,4],[2,1,0,3,4],[3,1,2,0,4],[4,1,2,3,0],[0,2,1,3,4],[0,3,2,1,4],[0,4,2,3,1],[0,1,3,2,4],[0,1,4,3,2],[0,1,2,4,3],
 [1,0,3,2,4],[1,0,4,3,2],[1,0,2,4,3],[2,3,0,1,4],[2,4,0,3,1],[2,1,0,4,3],[3,2,1,0,4],[3,4,2,0,1],[3,1,4,0,2],[4,2,1,3,0],[4,3,2,1,0],[4,1,3,2,0],[0,2,1,4,3],[0,3,4,1,2],[0,4,3,2,1]]
theorem Nh:(cands.all λa=>decide (a∈turnsOf 5/\a≠nums 5))=true:=by decide +kernel
theorem Sl:((subs (prs 5)).all λx=>cands.any λa=>decide (tw a x=x))=true:=by decide +kernel
theorem ali5(hx:Wb 5 x):(j6 5 x).length<64:=by
 obtain⟨a,ha,e⟩:=AU.mp (hZ.mp Sl x (rD ((Aw (m:=5) #[by decide,by decide]).mpr hx)))
 obtain⟨h1,h2⟩:=i4 (hZ.mp Nh a ha);exact Sj hx ((bh (m:=5) #[by decide,by decide]).1 a h1) h2 (i4 e)
theorem YZ:([1,2,3,4].all λm=>decide ((turnsOf m).length<=24))=true:=by decide +kernel
theorem Sq(hm:1<=m/\m<=5)(hx:Wb m x):(j6 m x).length<64:=by
 by_cases h5:m=5
 . subst h5;exact ali5 hx
 .
  have hm4:m∈[1,2,3,4]:=by
   have:m=1\/m=2\/m=3\/m=4:=by lia
   rcases this with rfl |rfl |rfl |rfl <;> decide
  have h1:=i4 (hZ.mp YZ m hm4);have h2:=rC ((turnsOf m).map λt=>cC m (tw t x)) []
  rw[d6,wS]at h2;show (fZ [] _).length<64;lia
theorem Ss(hm:1<=m/\m<=5)(hx:Wb m x):Nk.K1 (j6 m x)=true:=yM (m:=m) (λk hk=>by
 rcases (cD _ _).mp hk with h |h
 . symm
 .
  obtain⟨t,_,e⟩:=eC.mp h;exact#[_,e.symm]) (Sq hm hx)
theorem vK:([1,2,3,4,5].all λn=>(yI n (n - 1)).all λt=>decide ((aU t).length<64))=true:=by decide +kernel
theorem rE(h:yy t)(h5:t.length<=5):(aU t).length<64:=by
 have h1:=h.l1;have hm:t.length∈[1,2,3,4,5]:=by
  have:t.length=1\/t.length=2\/t.length=3\/t.length=4\/t.length=5:=by lia
  rcases this with e |e |e |e |e <;> rw[e] <;> decide
 have:=hZ.mp vK _ hm;exact i4 (hZ.mp this t (ju t _ h.s λx hx=>by have:=h.r.2 x hx;lia))
def DK(t: ~~~0):List Nk.Pn:=fZ [] ((aU t).map λts=>cC t.length (rY t.length ts))
theorem Hj(h:yy t)(h5:t.length<=5):Nk.K1 (DK t)=true:=yM (m:=t.length) (λk hk=>by
 rcases (cD _ _).mp hk with h |h
 . symm
 .
  obtain⟨x,_,e⟩:=eC.mp h;exact#[_,e.symm]) (by
 have h2:=rC ((aU t).map λts=>cC t.length (rY t.length ts)) []
 have h3:=rE h h5;rw[d6,wS]at h2;show (fZ [] _).length<64;lia)
theorem yN(m:Nat):∀l:List (~~~5),zQ (l.map λx=>W m x)=!(l.map λx=>(cC m x).1)
 | []=>rfl
 |x::l=>by
  have e:yV (Nk.dT (cC m x).1)=some (cC m x).1:=Nc _;have ih:=yN m l;rw[List.map_cons,List.map_cons,<- vJ m x];show (match yV (Nk.dT (cC m x).1)with |some a=>(match zQ (l.map λx=>W m x)with |some r=>!(a::r) |none=>none) |none=>none)=_
  rw[e,ih]
theorem Bb(m:Nat)(l:List (~~~5)):KZ (l.map λx=>(cC m x).1)=true:=by
 refine hZ.mpr λa ha=>?_
 obtain⟨x,_,rfl⟩:=eC.mp ha;rw[eM];refine#[i5 (cC m x).2,hZ.mpr λb hb=>?_]
 obtain⟨y,_,rfl⟩:=eC.mp hb;exact Nf m x y
theorem DN(m:Nat)(x: ~~~5):Hy (cC m x).1=W m x:=vJ m x
theorem Ni(m:Nat)(l:List (~~~5)):(l=[]/\tG (.lst (l.map λx=>W m x))=some .non)\/∃y∈l,tG (.lst (l.map λx=>W m x))=!(W m y):=by
 cases l with
 |nil=>exact .inl #[rfl,rfl]
 |cons x l=>
  have k:=yN m (x::l);have c:=Bb m (x::l);obtain⟨y,hy,e⟩:=eC.mp (show fD Nk.fM (cC m x).1 (l.map λx=>(cC m x).1)∈(x::l).map λx=>(cC m x).1 from rm Nk.fM _ _)
  refine .inr #[y,hy,?_];rw[List.map_cons,List.map_cons]at k;rw[List.map_cons]at c;show (match zQ (W m x::l.map λx=>W m x)with |!(k::ks)=>if KZ (k::ks)=true then some (Hy (fD Nk.fM k ks))else none |_=>none)=_
  rw[k];dsimp only;rw[eR c,<- e,DN]
theorem Ug:∀L:List Nk.Kt,(∀a∈L,∃x,a=(cC m x).1)->∃K:List (~~~5),L=K.map λx=>(cC m x).1
 | [],_=>#[[],rfl]
 |a::L,h=>by
  obtain⟨x,rfl⟩:=h a b0;obtain⟨K,rfl⟩:=Ug L λb hb=>h b (bP _ hb)
  exact#[x::K,rfl]
theorem uq(hn:ks.Nodup)(hk:∀k∈ks,∃x,k=cC m x):∃K:List (~~~5),K.Nodup/\K.length=ks.length/\nU ks=(K.map λx=>W m x)/\∀f,f∈K ↔ cC m f∈ks:=by
 have hp:=aQ (O:=Nk.fM) (ks.map (·.1));have vi:∀{a b:Nk.Pn},a.1=b.1->a=b:=λh=>Subtype.ext h
 obtain⟨K,hK⟩:=Ug (aN Nk.fM (ks.map (·.1))) λa ha=>by
  obtain⟨k,hk',rfl⟩:=eC.mp (hp.mem_iff.mp ha);obtain⟨x,rfl⟩:=hk k hk';exact#[x,rfl]
 have nd:(ks.map (·.1)).Nodup:=y3.mpr (List.Pairwise.imp (λh e=>h (vi e)) hn)
 have nK:=hK▸hp.nodup_iff.mpr nd;refine#[K,(y3.mp nK).imp λh e=>h (by rw[e]),by rw[<- d6,<- hK,hp.length_eq,d6],?_,λf=>?_]
 . unfold nU;rw[hK,List.map_map];exact i7 λx _=>DN m x
 .
  constructor
  .
   intro hf;have:(cC m f).1∈aN Nk.fM (ks.map (·.1)):=by rw[hK];exact eC.mpr #[f,hf,rfl]
   obtain⟨k,hk',e⟩:=eC.mp (hp.mem_iff.mp this);exact vi e▸hk'
  .
   intro hf;have:(cC m f).1∈K.map λx=>(cC m x).1:=by rw[<- hK];exact hp.mem_iff.mpr (eC.mpr #[_,hf,rfl])
   obtain⟨x,hx,e⟩:=eC.mp this;rw[<- rB (vi e)];exact hx
theorem Bc(t: ~~~0):∃K:List (~~~5),K.Nodup/\nU (DK t)=(K.map λx=>W t.length x)/\∀f,f∈K ↔ ∃x∈aU t,f=rY t.length x:=by
 obtain⟨K,h1,_,h2,h3⟩:=uq (ks:=DK t) (gg _ _ qS) λk hk=>by
  rcases (cD _ _).mp hk with h |h
  . symm
  . obtain⟨x,_,e⟩:=eC.mp h;exact#[_,e.symm]
 refine#[K,h1,h2,λf=>(h3 f).trans ((cD _ _).trans ?_)]
 constructor
 .
  rintro (h |h)
  . symm
  . obtain⟨x,hx,e⟩:=eC.mp h;exact#[x,hx,(rB e).symm]
 . rintro⟨x,hx,rfl⟩;exact .inr (eC.mpr #[x,hx,rfl])
theorem Nj(m:Nat)(f: ~~~5):∃A:List (~~~5),A.Nodup/\A.length=(j6 m f).length/\nU (j6 m f)=(A.map λx=>W m x)/\∀y,y∈A ↔ ∃s∈turnsOf m,y=tw s f:=by
 obtain⟨K,h1,h0,h2,h3⟩:=uq (ks:=j6 m f) (gg _ _ qS) λk hk=>by
  rcases (cD _ _).mp hk with h |h
  . symm
  . obtain⟨x,_,e⟩:=eC.mp h;exact#[_,e.symm]
 refine#[K,h1,h0,h2,λy=>(h3 y).trans ((cD _ _).trans ?_)]
 constructor
 .
  rintro (h |h)
  . symm
  . obtain⟨x,hx,e⟩:=eC.mp h;exact#[x,hx,(rB e).symm]
 . rintro⟨x,hx,rfl⟩;exact .inr (eC.mpr #[x,hx,rfl])
theorem Hl(l: ~~~0):∃q,Tn l.length q/\q.map (gt l)=(bO l).reverse:=by
 have hp:=List.mergeSort_perm (nums l.length) λa b=>decide (gt l b<=gt l a)
 have hs:=List.pairwise_mergeSort (le:=λa b=>decide (gt l b<=gt l a)) (λa b c h1 h2=>i5 (CM (i4 h2) (i4 h1))) (λa b=>by
  rcases Int.le_total (gt l b) (gt l a)with h |h <;> simp[h]) (nums l.length)
 generalize (nums l.length).mergeSort (λa b=>decide (gt l b<=gt l a))=q at hp hs
 refine#[q,Tn.of hp,?_];have e:=dN (m:=(q.map (gt l)).reverse) (l:=l) ((List.reverse_perm _).trans (by
  have:=hp.map (gt l);rw[mz rfl]at this;exact this)) (AC.mpr (y3.mpr (hs.imp i4)))
 rw[<- e,Cn]
theorem Be(hx:Wb m x):∃s,Tn m s/\cn m (tw s x)=jJ m x:=by
 obtain⟨q,hq,e⟩:=Hl (cn m x);rw[qW]at hq;obtain⟨v,hv,hb⟩:=oE hq;obtain⟨u,hu,hc⟩:=oE hv;have wy:=hx.turn hv;have back:tw q (tw v x)=x:=by rw[<- hc _ (wy.turn hq),hb _ wy,hc x hx]
 refine#[v,hv,?_];unfold jJ;rw[<- e,vI];have e2:q.map (gt (cn m x))=((nums m).map (gt q)).map (gt (cn m x)):=by rw[mz hq.length]
 rw[e2,List.map_map];refine i7 λi hi=>?_
 have hi:=jd.mp hi;have h2:=hq.jW hi;rw[<- yH hq (λp hp=>by obtain⟨a,b,e,q⟩:=wy.tie p hp;exact#[a,b,e,q]) hi,back]
 show _=gt (cn m x) (gt q i);obtain⟨j,hj⟩:∃j:Nat,gt q i=j:=#[(gt q i).toNat,by lia]
 rw[hj,MT m x j ⋯]
theorem Nm(hm:1<=m/\m<=6):((List.range m).all λi=>decide ((prs m).countP (has (i:Nat))+1<=m))=true:=by apply six hm <;> decide +kernel
theorem oF(m:Nat)(x: ~~~5):(jJ m x).length=m:=by unfold jJ;rw[CF,(aZ _).length_eq,qW]
theorem Bf(hm:1<=m/\m<=6)(hx:Wb m x):yy (jJ m x):=by
 have hl:=oF m x;refine#[by lia,by lia,#[rfl,λy hy=>?_],AC.mpr (dc _)]
 rw[hl];have hy:=(aZ _).mem_iff.mp (List.mem_reverse.mp hy);obtain⟨i,hi,rfl⟩:=eC.mp hy;have h1:=i4 (hZ.mp (Nm hm) i hi);have h2:=((Aw hm).mpr hx).countP_le (p:=has (i:Nat));rw[vB];lia
theorem yO(hm:1<=m/\m<=6)(hx:Wb m x):aU (jJ m x)≠[]:=by
 obtain⟨s,hs,e⟩:=Be hx;have hl:=oF m x;have k:=Bf hm hx;have:=(g8 (t:=jJ m x) (by rw[hl];exact hm) (λy hy=>(k.r.2 y hy).1) (tw s x)).mpr (by rw[hl];exact#[hx.turn hs,e])
 exact List.ne_nil_of_mem this
set_option maxHeartbeats 4000000 in
theorem Y0:((yI 6 5).all λt=>kF (uc t)||(aU t).isEmpty)=true:=by decide +kernel
theorem Np(hm:1<=m/\m<=6)(hx:Wb m x):kF (uc (jJ m x))=true:=by
 have hl:=oF m x;have k:=Bf hm hx;have ne:=yO hm hx;generalize jJ m x=t at *;by_cases h6:t.length=6
 .
  have:=hZ.mp Y0 t (h6▸ju t 5 k.s λy hy=>by have:=k.r.2 y hy;rw[h6]at this;exact this)
  rcases (wT _ _).mp this with h |h
  . exact h
  . exact absurd (List.isEmpty_iff.mp h) ne
 .
  rw[Dw k ⋯];cases e:aU t with
  |nil=>exact absurd e ne
  |cons=>rfl
end Ev
namespace iJ
open Ev
def pC:Ex:=.comp 9 2 (.nm 10) ⇑3 (!(.or [(.cmp .NotEq (.call 17 [⇑10]) ⇑0),(.cmp .NotEq (.call 14 [⇑10]) ⇑10)])) ⇑10
def p1:Sm:=.par 1 2 (.call 22 [⇑0]) (.call 25 [⇑0])
def p2:Sm:=.set 3 (.call 26 [⇑0])
def p3:Sm:=.set 4 (.call 18 [⇑0])
noncomputable def p4:Sm:=.ite (.or [(.cmp .NotEq ⇑4 (.cmp .Is ⇑1 (.val .non))),(.cmp .NotEq ⇑4 (.cmp .Gt (.call 24 [⇑0]) ↥0))]) (~~~4) []
noncomputable def p5:Sm:=.ite (.or [(.cmp .NotEq ⇑4 (.cmp .IsNot ⇑2 (.val .non))),(.cmp .NotEq ⇑4 (.cmp .NotEq ⇑3 (.lst [])))]) (~~~4) []
noncomputable def p6:Sm:=.ite (.cmp .IsNot ⇑1 (.val .non)) [(.ret (.cmp .Is (.call 19 [⇑0,⇑1]) (.val (.bl true))))] []
noncomputable def p7:Sm:=.ite (.or [(.cmp .IsNot (.call 4 [⇑2]) (.val (.bl true))),(.cmp .NotEq (.call 17 [⇑2]) ⇑0),(.cmp .NotIn (.call 14 [⇑2]) ⇑3)]) (~~~4) []
def p8:Sm:=.ite (.cmp .NotEq pC (.lst [])) (~~~4) []
def p9:Sm:=.set 6 ↥0
def pI:List Sm:=[(.setC 8 (.comp 9 2 (.nm 10) (.cz (.blt .len [⇑0])) none (.blt .len [(.call 29 [⇑7,⇑10])]))),(.set 6 (.bin .Add ⇑6 (.blt .int [(.cmp .Eq ⇑8 (.blt .list [⇑0]))])))]
def pO:List Sm:=[(.loop (.nm 7) (.call 12 [⇑5]) pI)]
def p10:Sm:=.loop (.nm 5) ⇑3 pO
def p11:Sm:=.ret (.cmp .Eq ⇑6 (.call 24 [⇑0]))
def Y3:Fx:=#[1,9,[p1,p2,p3,p4,p5,p6,p7,p8,p9,p10,p11]]
def b1:Sm:=.set 2 (.call 31 [⇑0,⇑1])
noncomputable def b2:Sm:=.ite (.not (.call 38 [(.call 33 [⇑2,↥5])])) (~~~4) []
def b3:Sm:=.set 3 (.call 37 [⇑2])
def b4:Sm:=.set 4 (.call 17 [⇑3])
noncomputable def b5:Sm:=.ite (.or [(.cmp .IsNot (.call 15 [⇑4]) (.val (.bl true))),(.cmp .IsNot (.call 18 [⇑4]) (.val (.bl true)))]) (~~~4) []
noncomputable def b6:Sm:=.ite (.cmp .IsNot (.call 22 [⇑4]) (.val .non)) (~~~4) []
def b7:Sm:=.ite (.or [(.cmp .NotEq (.call 17 [(.call 34 [⇑3,(.call 35 [⇑2,(.ix ⇑3 ↥0)])])]) ⇑4),(.cmp .Lt (.call 24 [⇑4]) ↥1)]) (~~~4) []
noncomputable def yP:List Sm:=[b1,b2,b3,b4,b5,b6,b7]
def Zt:Fx:=#[1,5,[(.loop (.nm 1) (.cz (.blt .max [↥1,(.blt .min [(.blt .len [⇑0]),↥4])])) yP),(.ret (.val (.bl true)))]]
def fns:List Fx:=[bD,aO 0,Hg,je,eo 1 5 6,fJ 1,qR,bT 4 1,vG 9,jh,Av,nu,Hh 7 13 8,Ud,rq 7 13 8,aY 1 3,bw 15 0,cW 7 11,iE 22,bU 16 20 1 21,rX,kY,fK 16 20 21,dY 16 2,gf 23 27,jv 23 27,kindsX 23 27 14,fY 10 28,YD,yu,nj,mj 30,aV,dR 32,eu,jI 32,iG 32 34 35,qV 32 34 35 36,Y3,Zt]
theorem c0:fns[0]?=!(bD):=rfl
theorem c1:fns[1]?=!(aO 0):=rfl
theorem c2:fns[2]?=!(Hg):=rfl
theorem c3:fns[3]?=!(je):=rfl
theorem c4:fns[4]?=!(eo 1 5 6):=rfl
theorem c5:fns[5]?=!(fJ 1):=rfl
theorem c6:fns[6]?=!(qR):=rfl
theorem c7:fns[7]?=!(bT 4 1):=rfl
theorem c8:fns[8]?=!(vG 9):=rfl
theorem c9:fns[9]?=!(jh):=rfl
theorem c10:fns[10]?=!(Av):=rfl
theorem c11:fns[11]?=!(nu):=rfl
theorem c12:fns[12]?=!(Hh 7 13 8):=rfl
theorem c13:fns[13]?=!(Ud):=rfl
theorem c14:fns[14]?=!(rq 7 13 8):=rfl
theorem Nq:fns[15]?=!(aY 1 3):=rfl
theorem c16:fns[16]?=!(bw 15 0):=rfl
theorem c17:fns[17]?=!(cW 7 11):=rfl
theorem c18:fns[18]?=!(iE 22):=rfl
theorem c19:fns[19]?=!(bU 16 20 1 21):=rfl
theorem c20:fns[20]?=!(rX):=rfl
theorem c21:fns[21]?=!(kY):=rfl
theorem c22:fns[22]?=!(fK 16 20 21):=rfl
theorem c23:fns[23]?=!(dY 16 2):=rfl
theorem c24:fns[24]?=!(gf 23 27):=rfl
theorem c25:fns[25]?=!(jv 23 27):=rfl
theorem c26:fns[26]?=!(kindsX 23 27 14):=rfl
theorem c27:fns[27]?=!(fY 10 28):=rfl
theorem c28:fns[28]?=!(YD):=rfl
theorem c29:fns[29]?=!(yu):=rfl
theorem c30:fns[30]?=!(nj):=rfl
theorem c31:fns[31]?=!(mj 30):=rfl
theorem c32:fns[32]?=!(aV):=rfl
theorem c33:fns[33]?=!(dR 32):=rfl
theorem c34:fns[34]?=!(eu):=rfl
theorem c35:fns[35]?=!(jI 32):=rfl
theorem c36:fns[36]?=!(iG 32 34 35):=rfl
theorem c37:fns[37]?=!(qV 32 34 35 36):=rfl
theorem c38:fns[38]?=!(Y3):=rfl
end iJ
namespace iJ
open Ev
def fr(T:D)(a b c d e:Slot):G:=[.dat T,a,b,c,d,.no,e,.no,.no]
theorem pl_W(m:Nat)(x: ~~~5):gH (W m x)=true/\dep (W m x)<=5:=by
 have:=tV x;constructor
 . simp[W,gH,cO,tU]
 . simp[W,dep,deps];lia
theorem vL(m:Nat)(K:List (~~~5)):∀d∈K.map λx=>W m x,gH d=true/\dep d<=5:=λd hd=>by
 obtain⟨x,_,rfl⟩:=eC.mp hd;exact pl_W m x
theorem Ho(m:Nat)(K:List (~~~5))(x: ~~~5)(h:x∈K):cY .NotIn (W m x) (.lst (K.map λx=>W m x))=!false:=by
 have h2:=qP λd hd=>(vL m K d hd).1
 have h3:=qQ λd hd=>(vL m K d hd).2
 have h:rR (W m x) (K.map λx=>W m x)=true:=by simp only[rR,(pl_W m x).1];lia
 simp only[cY,dJ,h];rw[AU.mpr #[W m x,eC.mpr #[x,by assumption,rfl],by rw[T9];exact i5 rfl]]
 rfl
theorem Y4(m:Nat)(K:List (~~~5)):cY .NotEq (.lst (K.map λx=>W m x)) (.lst [])=!((not K.isEmpty)):=by rw[Yj (vL m K)];cases K <;> rfl
theorem Nr{t: ~~~0}(h:kF (uc t)=false):Cmp (uc t)/\ez t (uc t)=true:=by
 unfold uc at *;cases ho:yx t with
 |true=>rw[eR rfl];exact#[R3,by rw[GZ,ho]]
 |false=>
  rw[ho]at h;rw[eP ⋯];cases e:My t with
  |none=>rw[e]at h;symm
  |some i=>have h1:=List.mem_of_find?_eq_some e;have h2:=List.find?_some e;exact#[Mz _,by rw[Au t i (lS.mp h1)];exact h2]
section
variable{k n:Nat}{rn:Nat->Rn}(U:gI fns rn)
include U
theorem Bg{m:Nat}(hm:1<=m/\m<=6){x: ~~~5}(hx:Wb m x)(n k:Nat):bA (rn (n+80)) (k+7) (rq 7 13 8) [W m x]=!(.dat (W m (rY m x))):=by have:=Si U c0 c1 c5 c6 c4 c7 c9 c8 c13 (n:=n) (k:=k) m hm x hx;obtain⟨_,_,_,e⟩:=mL hm x;rw[e]at this;exact this
theorem Sv(t: ~~~0)(h:yy t)(h5:t.length<=5)(n k:Nat):bA (rn (n+90)) (k+9) (kindsX 23 27 14) [~~~t]=!(.new (nU (DK t))):=by
 have hm:1<=t.length/\t.length<=6:=#[h.l1,by lia]
 exact kinds_ok U c0 c1 c3 Nq c16 c2 c23 c27 c28 c10 c14 rfl (rY t.length) t h h5 (by have:=rE h h5;lia) (λx hx n k=>Bg U hm ((g8 hm (λy hy=>(h.r.2 y hy).1) x).mp hx).1 n k) (Hj h h5)
theorem inner(t: ~~~0)(h5:1<=t.length/\t.length<=6)(B1 B2 B3 B4 B5:Slot)(L:List (~~~5))(hl:∀y∈L,Wb t.length y)(acc:Int)(a7 a8:Slot) :
  ∃b7 b8,kP (.nm 7) ((rn (n+99)).b [] (k+11) pI) (L.map λy=>W t.length y) [.dat (~~~t),B1,B2,B3,B4,B5,‹acc›,a7,a8]=!(.nx,[.dat (~~~t),B1,B2,B3,B4,B5,.dat (.int (acc+(L.countP λy=>decide (cn t.length y=t):Nat))),b7,b8]):=by
 obtain⟨g',⟨acc',a7,a8,e,_,rfl⟩,w⟩:=bM (T:=.nm 7) (b:=(rn (n+99)).b [] (k+11) pI) (λy=>W t.length y)
  (I:=λl g=>∃(a:Int) (a7 a8:Slot),a+(l.countP λy=>decide (cn t.length y=t):Nat)=acc+(L.countP λy=>decide (cn t.length y=t):Nat)/\(∀y∈l,Wb t.length y)/\g=[.dat (~~~t),B1,B2,B3,B4,B5,‹a›,a7,a8])
  (step:=λy l' g hh=>by
   obtain⟨a,a7,a8,e,hw,rfl⟩:=hh;have wy:=hw y b0;have w:∀n k,bS (rn (n+60)) [] (k+1) 9 2 (.nm 10) (.cz (.blt .len [⇑0])) none (.blt .len [(.call 29 [⇑7,⇑10])]) [.dat (~~~t),B1,B2,B3,B4,B5,‹a›,.dat (W t.length y),a8]=!((cn t.length y).map .int,[.dat (~~~t),B1,B2,B3,B4,B5,‹a›,.dat (W t.length y),a8]):=λn k=>by
    unfold cn;rw[List.map_map];have hr:bQ 0 t.length=(List.range t.length).map λ(x:Nat)=>D.int (x:Int):=by exact i7 λx _=>by rw[CS]
    refine kU (List.range t.length) (λi=>D.int (i:Int)) (λi=>.int ((nb (i:Int) y).length:Int)) (by simp! [U,cN,aI t.length ⋯,hr]) rfl ⋯ ⋯ ⋯ (ao _ (by rw[AL];lia)) λi hi G' hG=>?_
    have h7:=hG.1 7 ⋯;have ni:=λn k=>RX U (n:=n) (k:=k) t.length y wy (i:Int)
    have nl:(nb (i:Int) y).length=(y.filter (has i)).length:=by rw[vB,yA]
    rw[nl];simp! [U,h7,hG.2,c29,bu (fx:=yu) rfl,ni]
   refine#[_,_,rfl,?_,a+(if cn t.length y=t then 1 else 0),.dat (W t.length y),.own ((cn t.length y).map .int),?_,λz hz=>hw z (bP _ hz),rfl]
   .
    have bt:jH .int [.bl true]=!‹1›:=rfl;have bf:jH .int [.bl false]=!‹0›:=rfl;generalize cn t.length y=c at *;by_cases ec:c=t
    . unfold pI;simp! [U,w,ec,bt]
    . unfold pI;simp! [U,w,ec,bf]
   .
    rw[<- e,List.countP_cons];by_cases ec:cn t.length y=t
    . rw[eR (i5 ec)];lia
    .
     rw[eP (by simpa using ec)];lia) L [.dat (~~~t),B1,B2,B3,B4,B5,‹acc›,a7,a8] #[acc,a7,a8,rfl,hl,rfl]
 refine#[a7,a8,?_];rw[w,<- e];simp
theorem Sw(t: ~~~0)(hm:1<=t.length/\t.length<=5)(f: ~~~5)(hf:Wb t.length f)(n k:Nat):bA (rn (n+80)) (k+7) (Hh 7 13 8) [W t.length f]=!(.new (nU (j6 t.length f))):=
 YX U c0 c1 c5 c6 c4 c7 c9 c8 c13 t.length #[hm.1,by lia] f hf (Ss hm hf)
theorem outer(t: ~~~0)(h5:1<=t.length/\t.length<=5)(A: ~~~5->List (~~~5))(K:List (~~~5))(hK:∀f∈K,Wb t.length f/\nU (j6 t.length f)=((A f).map λx=>W t.length x)/\∀y∈A f,Wb t.length y)(B1 B2 B3 B4 a5 a7 a8:Slot) :
  ∃b5 b7 b8,kP (.nm 5) ((rn (n+100)).b [] (k+11) pO) (K.map λy=>W t.length y) [.dat (~~~t),B1,B2,B3,B4,a5,‹0›,a7,a8]=!(.nx,[.dat (~~~t),B1,B2,B3,B4,b5,.dat (.int ((K.map λf=>(A f).countP λy=>decide (cn t.length y=t)).sum:Nat)),b7,b8]):=by
 obtain⟨g',⟨acc',a5,a7,a8,e,_,rfl⟩,w⟩:=bM (T:=.nm 5) (b:=(rn (n+100)).b [] (k+11) pO) (λy=>W t.length y)
  (I:=λl g=>∃(a:Int) (a5 a7 a8:Slot),a+((l.map λf=>(A f).countP λy=>decide (cn t.length y=t)).sum:Nat)=((K.map λf=>(A f).countP λy=>decide (cn t.length y=t)).sum:Nat)/\(∀f∈l,f∈K)/\g=[.dat (~~~t),B1,B2,B3,B4,a5,‹a›,a7,a8])
  (step:=λf l' g hh=>by
   obtain⟨a,a5,a7,a8,e,hw,rfl⟩:=hh;obtain⟨wf,ea,wa⟩:=hK f (hw f b0);have q:=λn k=>Sw U t h5 f wf n k
   rw[ea]at q;obtain⟨b7,b8,i⟩:=inner U (n:=n) (k:=k) t #[h5.1,by lia] B1 B2 B3 B4 (.dat (W t.length f)) (A f) wa a a7 a8
   have hwk:cN (rn (n+99)) [] (k+11) false (.call 12 [⇑5]) [.dat (~~~t),B1,B2,B3,B4,.dat (W t.length f),‹a›,a7,a8]=!((A f).map λy=>W t.length y,[.dat (~~~t),B1,B2,B3,B4,.dat (W t.length f),‹a›,a7,a8]):=by simp! [U,cN,c12,az (fx:=Hh 7 13 8) rfl,q]
   have st:aA (rn (n+99)) [] (k+11) (.loop (.nm 7) (.call 12 [⇑5]) pI) [.dat (~~~t),B1,B2,B3,B4,.dat (W t.length f),‹a›,a7,a8]=!(.nx,[.dat (~~~t),B1,B2,B3,B4,.dat (W t.length f),.dat (.int (a+((A f).countP λy=>decide (cn t.length y=t):Nat))),b7,b8]):=by simp only[aA,Tg.iC,hwk,i];simp
   refine#[_,_,rfl,?_,a+((A f).countP λy=>decide (cn t.length y=t):Nat),.dat (W t.length f),b7,b8,?_,λz hz=>hw z (bP _ hz),rfl]
   . unfold pO;rw[U.b];exact (au st).trans rfl
   .
    rw[<- e,List.map_cons,x5];lia) K [.dat (~~~t),B1,B2,B3,B4,a5,‹0›,a7,a8] #[0,a5,a7,a8,by simp,λf h=>h,rfl]
 refine#[a5,a7,a8,?_];rw[w,<- e];simp
theorem Nt(t: ~~~0)(h:yy t)(h5:t.length<=5):bA (rn (n+101)) (k+11) Y3 [~~~t]=!(.dat (.bl true)):=by
 have hm:1<=t.length/\t.length<=6:=#[h.l1,by lia]
 have hn:∀y∈t,0<=y:=λy hy=>(h.r.2 y hy).1
 have mw:=g8 hm hn;have q1:=λn k=>qX U c0 c1 c3 Nq c16 c20 c21 (n:=n) (k:=k) t h
 have q2:=λn k=>ud U c0 c1 c3 Nq c16 c20 c21 c22 (n:=n) (k:=k) t h
 have q3:=λn k=>um U c0 c1 c3 Nq c16 c2 c23 c27 c28 c10 (n:=n) (k:=k) t h hm.2
 have q4:=Sv U t h h5;have hg:=Dw h h5;obtain⟨K,nK,eK,mK⟩:=Bc t;rw[eK]at q4;have cmG:∀l:Nat,cY .Gt (.int (l:Int)) (.int 0)=!(decide (l≠0)):=λl=>by
  show some (decide ((l:Int) > 0))=_
  congr 1
  exact x0.mpr ⋯
 have cmN:=Y4 t.length K;have cI:cY .Is (uc t) .non=!(kF (uc t)):=rfl;have cJ:cY .IsNot (uc t) .non=!((not (kF (uc t)))):=rfl;have cb:∀a b:Bool,cY .NotEq (.bl a) (.bl b)=!((not (a==b))):=λ_ _=>rfl
 cases hw:aU t with
 |nil=>
  rw[hw]at hg q3;have K0:=List.eq_nil_iff_forall_not_mem.mpr λf hf=>by
   obtain⟨x,hx,_⟩:=(mK f).mp hf;rw[hw]at hx;cases hx
  subst K0;have q5:=λn k=>uo U c0 c1 c3 Nq c16 c2 c23 c27 c28 c10 (n:=n) (k:=k) t h hm.2 .non (by rw[hw];rfl)
  obtain⟨pc,pp⟩:=Nr hg;have q6:=λn k=>Ar U c0 c1 c3 Nq c16 c20 c21 (n:=n) (k:=k) t h (uc t) pc
  rw[pp]at q6;rw[hg]at q2 cI cJ;have cs:cY .IsNot .non .non=!false:=rfl;have ct:cY .Is (.bl true) (.bl true)=!true:=rfl;unfold bA Y3 p1 p2 p3 p4 p5 p6;simp! [U,c22,az (fx:=fK 16 20 21) rfl,q1,c25,az (fx:=jv 23 27) rfl,q5,c26,az (fx:=kindsX 23 27 14) rfl,q4,c18,az (fx:=iE 22) rfl,q2,c24,az (fx:=gf 23 27) rfl,q3,c19,bu (fx:=bU 16 20 1 21) rfl,q6,cmN,cI,cJ,cs,ct,cb]
 |cons y0 l0=>
  have kl:K.length<=63:=by
   have h1:=rE h h5;have h2:=nK.length_le_of_subset λf hf=>by
    obtain⟨x,hx,e⟩:=(mK f).mp hf;exact eC.mpr #[x,hx,e.symm]
   rw[d6]at h2;lia
  have hg:kF (uc t)=true:=by rw[hg,hw];rfl
  obtain⟨_,hd⟩ |⟨y,hy,hd⟩:=Ni t.length (aU t)
  . rename_i e;rw[hw]at e;cases e
  have q5:=λn k=>uo U c0 c1 c3 Nq c16 c2 c23 c27 c28 c10 (n:=n) (k:=k) t h hm.2 _ hd
  obtain⟨wy,cy⟩:=(mw y).mp hy;have fy:=(mK _).mpr #[y,hy,rfl];have Kn:K.isEmpty=false:=by
   cases K with
   |nil=>cases fy
   |cons=>rfl
  rw[Kn]at cmN;have wK:∀f∈K,Wb t.length f/\jJ t.length f=t/\rY t.length f=f:=λf hf=>by
   obtain⟨x,hx,rfl⟩:=(mK f).mp hf;obtain⟨wx,cx⟩:=(mw x).mp hx;obtain⟨s,hs,e,_⟩:=mL hm x;exact#[Az hm wx,by rw[e,M9 ((bh hm).1 s hs) wx,Nb cx h.s],vH hm wx]
  have Al:=Nj t.length
  let A: ~~~5->List (~~~5):=λf=>(Al f).choose
  have hA:∀f∈K,(A f).Nodup/\nU (j6 t.length f)=((A f).map λx=>W t.length x)/\∀y,y∈A f ↔ ∃s∈turnsOf t.length,y=tw s f:=λf hf=>by
   obtain⟨a1,_,a2,a3⟩:=(Al f).choose_spec;exact#[a1,a2,a3]
  have lc:=Hf hm hn nK mK A λf hf=>#[(hA f hf).1,(hA f hf).2.2]
  have o:=outer U (n:=n) (k:=k) t #[hm.1,h5] A K λf hf=>#[(wK f hf).1,(hA f hf).2.1,λy hy=>by
   obtain⟨s,hs,rfl⟩:=((hA f hf).2.2 y).mp hy;exact (wK f hf).1.turn ((bh hm).1 s hs)]
  rw[lc]at o
  clear_value A
  have w1:=λn k=>yg U c0 c1 c5 c6 (n:=n) (k:=k) t.length y hm wy
  have w2:=λn k=>fX U c0 c1 c5 c6 c4 c11 c7 (n:=n) (k:=k) t.length hm y wy
  rw[Nb cy h.s]at w2;have w3:=Bg U hm wy;have cn:=Ho t.length K _ fy;have cf:∀(N:Nat) (B G4:Slot),bS (rn (N+95)) [] (k+11) 9 2 (.nm 10) ⇑3 (!(.or [(.cmp .NotEq (.call 17 [⇑10]) ⇑0),(.cmp .NotEq (.call 14 [⇑10]) ⇑10)])) ⇑10 [.dat (~~~t),B,.dat (W t.length y),.own (K.map λx=>W t.length x),G4,.no,.no,.no,.no]=!([],[.dat (~~~t),B,.dat (W t.length y),.dat (.lst (K.map λx=>W t.length x)),G4,.no,.no,.no,.no]):=λN B G4=>by
   have:=Df (rn:=rn (N+95)) (bor:=[]) (k:=k+11) (g:=[.dat (~~~t),B,.dat (W t.length y),.own (K.map λx=>W t.length x),G4,.no,.no,.no,.no]) (g1:=[.dat (~~~t),B,.dat (W t.length y),.dat (.lst (K.map λx=>W t.length x)),G4,.no,.no,.no,.no]) (kk:=2) (j:=10) (it:=.slot 3) (c:=!(.or [(.cmp .NotEq (.call 17 [⇑10]) ⇑0),(.cmp .NotEq (.call 14 [⇑10]) ⇑10)])) (e:=.slot 10) K (λx=>W t.length x) (λ_=>false) (λx=>W t.length x) (by simp! [U,cN]) rfl ⋯ ⋯ ⋯ (ao _ (by have:=kl;lia)) (λf hf G' hG=>by
    obtain⟨wf,cf,ff⟩:=wK f hf;have h0:=hG.1 0 ⋯;have z2:=λn k=>fX U c0 c1 c5 c6 c4 c11 c7 (n:=n) (k:=k) t.length hm f wf
    rw[cf]at z2;have z3:=Bg U hm wf;rw[ff]at z3;unfold nP;simp! [U,h0,hG.2,c17,az (fx:=cW 7 11) rfl,z2,c14,az (fx:=rq 7 13 8) rfl,z3,Yl]) (λf hf hp=>by cases hp)
   rw[show K.filter (λ_=>false)=[]from List.filter_eq_nil_iff.mpr λ_ _ h=>Bool.noConfusion h]at this
   exact this
  rw[hg]at q2 cI cJ;generalize uc t=np at *;have hq3:(decide ((aU t).length≠0))=true:=by rw[hw];rfl
  have cs:cY .IsNot (W t.length y) .non=!true:=rfl;have ct:cY .IsNot (.bl true) (.bl true)=!false:=rfl;have ce:cY .NotEq (.lst []) (.lst [])=!false:=by decide
  have cw:=vo t t;obtain⟨b5,b7,b8,o⟩:=o (.dat np) (.dat (W t.length y)) (.dat (.lst (K.map λx=>W t.length x))) (.dat (.bl true)) .no .no .no
  have cq:cY .Eq (.int ((aU t).length:Nat)) (.int ((aU t).length:Nat))=!true:=by rw[Ma];simp
  have cg:=cmG (aU t).length;rw[hq3]at cg;generalize hT : ~~~t=T at *;generalize hL:K.map (λx=>W t.length x)=L at *
  generalize (((aU t).length:Nat):Int)=N at *;generalize W t.length y=qqq at *;have e1:aA (rn (n+100)) [] (k+11) p1 (fr T .no .no .no .no .no)=!(.nx,fr T (.dat np) (.dat qqq) .no .no .no):=by unfold p1 fr;simp! [U,c22,az (fx:=fK 16 20 21) rfl,q1,c25,az (fx:=jv 23 27) rfl,q5]
  have e2:aA (rn (n+100)) [] (k+11) p2 (fr T (.dat np) (.dat qqq) .no .no .no)=!(.nx,fr T (.dat np) (.dat qqq) (.own L) .no .no):=by unfold p2 fr;simp! [U,c26,az (fx:=kindsX 23 27 14) rfl,q4]
  have e3:aA (rn (n+100)) [] (k+11) p3 (fr T (.dat np) (.dat qqq) (.own L) .no .no)=!(.nx,fr T (.dat np) (.dat qqq) (.own L) (.dat (.bl true)) .no):=by unfold p3 fr;simp! [U,c18,az (fx:=iE 22) rfl,q2]
  have e4:aA (rn (n+100)) [] (k+11) p4 (fr T (.dat np) (.dat qqq) (.own L) (.dat (.bl true)) .no)=!(.nx,fr T (.dat np) (.dat qqq) (.own L) (.dat (.bl true)) .no):=by unfold p4 fr;simp! [U,c24,az (fx:=gf 23 27) rfl,q3,cg,cI,cb]
  have e5:aA (rn (n+100)) [] (k+11) p5 (fr T (.dat np) (.dat qqq) (.own L) (.dat (.bl true)) .no)=!(.nx,fr T (.dat np) (.dat qqq) (.own L) (.dat (.bl true)) .no):=by unfold p5 fr;simp! [U,cs,cmN,cb]
  have e6:aA (rn (n+100)) [] (k+11) p6 (fr T (.dat np) (.dat qqq) (.own L) (.dat (.bl true)) .no)=!(.nx,fr T (.dat np) (.dat qqq) (.own L) (.dat (.bl true)) .no):=by unfold p6 fr;simp! [U,cJ]
  have e7:aA (rn (n+100)) [] (k+11) p7 (fr T (.dat np) (.dat qqq) (.own L) (.dat (.bl true)) .no)=!(.nx,fr T (.dat np) (.dat qqq) (.own L) (.dat (.bl true)) .no):=by unfold p7 fr;simp! [U,c4,az (fx:=eo 1 5 6) rfl,w1,ct,c17,az (fx:=cW 7 11) rfl,w2,cw,c14,az (fx:=rq 7 13 8) rfl,w3,cn]
  have e8:aA (rn (n+100)) [] (k+11) p8 (fr T (.dat np) (.dat qqq) (.own L) (.dat (.bl true)) .no)=!(.nx,fr T (.dat np) (.dat qqq) (.dat (.lst L)) (.dat (.bl true)) .no):=by unfold p8 pC fr;simp! [U,cf,ce]
  have e9:aA (rn (n+100)) [] (k+11) p9 (fr T (.dat np) (.dat qqq) (.dat (.lst L)) (.dat (.bl true)) .no)=!(.nx,fr T (.dat np) (.dat qqq) (.dat (.lst L)) (.dat (.bl true)) ‹0›):=by unfold p9 fr;simp! [U,U.e]
  have e10:aA (rn (n+100)) [] (k+11) p10 (fr T (.dat np) (.dat qqq) (.dat (.lst L)) (.dat (.bl true)) ‹0›)=!(.nx,[.dat T,.dat np,.dat qqq,.dat (.lst L),.dat (.bl true),b5,‹N›,b7,b8]):=by
   have hwk:cN (rn (n+100)) [] (k+11) false ⇑3 (fr T (.dat np) (.dat qqq) (.dat (.lst L)) (.dat (.bl true)) ‹0›)=!(L,fr T (.dat np) (.dat qqq) (.dat (.lst L)) (.dat (.bl true)) ‹0›):=by unfold fr;simp! [U,cN]
   unfold p10;simp only[aA,Tg.iC,hwk];exact o
  have hp:fB Y3.n (X5 [T])=fr T .no .no .no .no .no:=rfl;have hb:Y3.body=[p1,p2,p3,p4,p5,p6,p7,p8,p9,p10,p11]:=rfl;unfold bA;rw[hp,hb,U.b,au e1,au e2,au e3,au e4,au e5,au e6,au e7,au e8,au e9,au e10];unfold p11;simp! [U,c24,az (fx:=gf 23 27) rfl,q3]
end
end iJ
namespace iJ
open Ev
section
variable{k n:Nat}{rn:Nat->Rn}(U:gI fns rn)
include U
theorem cell(ns: ~~~0)(hl:ns.length<=63)(j:Nat)(a2 a3 a4:Slot):∃b2 b3 b4,(rn (n+130)).b [] (k+14) yP [.dat (.fix (ns.map .int)),‹j›,a2,a3,a4]=!(.nx,[.dat (.fix (ns.map .int)),‹j›,b2,b3,b4]):=by
 obtain⟨s,fl,q1⟩:=Mi U c30 (n:=n+88) (k:=k+12) ns ⋯ j;generalize hA0:Slot.dat (.fix (ns.map .int))=A0;generalize hA1:Slot.dat (.int (j:Int))=A1;have e1:aA (rn (n+129)) [] (k+14) b1 [A0,A1,a2,a3,a4]=!(.nx,[A0,A1,St s fl,a3,a4]):=by subst hA0 hA1;unfold b1;simp! [U,c31,bu (fx:=mj 30) rfl,q1]
 obtain⟨t,s1,⟨⟨t1,t2⟩,t3,t4⟩,q2⟩:=vD U c32 (n:=n+25) (k:=k+12) (g:=[A0,A1,St s fl,a3,a4]) (i:=2) (s:=s) (fl:=fl) 5 ⋯ rfl;have uK:=q2;have r:=λn k=>Nt U (n:=n) (k:=k) t #[t1,by lia,t3,t4] ⋯
 have e2:aA (rn (n+129)) [] (k+14) b2 [A0,A1,St s fl,a3,a4]=!(.nx,[A0,A1,St s1 fl,a3,a4]):=by unfold b2;simp! [U,c33,uK,c38,az (fx:=Y3) rfl,r]
 obtain⟨m,x,s2,hm,wx,q3⟩:=RQ U c32 c34 c35 c36 (k:=k+8) (g:=[A0,A1,St s1 fl,a3,a4]) (i:=2) (s:=s1) (fl:=fl) rfl;have BR:aX (rn (n+128)) (qV 32 34 35 36) (k+13) [.var 2] [A0,A1,St s1 fl,a3,a4]=!(.dat (W m x),[A0,A1,St s2 fl,a3,a4]):=q3;have e3:aA (rn (n+129)) [] (k+14) b3 [A0,A1,St s1 fl,a3,a4]=!(.nx,[A0,A1,St s2 fl,.dat (W m x),a4]):=by unfold b3;simp! [U,c37,BR]
 have h:=Bf hm wx;have hl:=oF m x;have q4:=λn k=>fX U c0 c1 c5 c6 c4 c11 c7 (n:=n) (k:=k) m hm x wx
 have e4:aA (rn (n+129)) [] (k+14) b4 [A0,A1,St s2 fl,.dat (W m x),a4]=!(.nx,[A0,A1,St s2 fl,.dat (W m x),.dat (~~~(jJ m x))]):=by unfold b4;simp! [U,c17,az (fx:=cW 7 11) rfl,q4]
 have hn:=Np hm wx;have q5:=λn k=>nk U c0 c1 c3 (n:=n) (k:=k) (~~~(jJ m x)) (show ((jJ m x).map D.int).length<=40 by rw[d6];lia)
 rw[h.is]at q5;have q6:=λn k=>ud U c0 c1 c3 Nq c16 c20 c21 c22 (n:=n) (k:=k) (jJ m x) h
 rw[hn]at q6;have q7:=λn k=>qX U c0 c1 c3 Nq c16 c20 c21 (n:=n) (k:=k) (jJ m x) h
 have ct:cY .IsNot (.bl true) (.bl true)=!false:=rfl;have cJ:cY .IsNot (uc (jJ m x)) .non=!((not (kF (uc (jJ m x))))):=rfl;rw[hn]at cJ;obtain⟨u,s3,tu,q8⟩:=vp U c32 (n:=n+74) (k:=k+12) (g:=[A0,A1,St s2 fl,.dat (W m x),.dat (~~~(jJ m x))]) (i:=2) (s:=s2) (fl:=fl) m rfl ⋯;have q8':=q8;have q9:=λn k=>qT U (n:=n) (k:=k) m ⋯ x (λp hp=>by obtain⟨a,b,e,q⟩:=wx.tie p hp;exact#[a,b,e,q]) (by have:=wx.len;lia) u tu
 have q9':∀n k,bA (rn (n+20)) k eu [W m x,~~~u]=!(.dat (W m (tw u x))):=q9;have q10:=λn k=>fX U c0 c1 c5 c6 c4 c11 c7 (n:=n) (k:=k) m hm _ (wx.turn tu)
 rw[M9 tu wx]at q10;have q11:=λn k=>um U c0 c1 c3 Nq c16 c2 c23 c27 c28 c10 (n:=n) (k:=k) (jJ m x) h ⋯
 have ne:=yO hm wx;have cl:cY .Lt (.int ((aU (jJ m x)).length:Nat)) (.int 1)=!false:=by
  cases hq:aU (jJ m x)with
  |nil=>exact absurd hq ne
  |cons y l=>show some (decide (((y::l).length:Int)<1))=_;rw[mN (by rw[hV];lia)]
 have i0:CV (W m x) (.int 0)=!(.int m):=rfl;have cw:=vo (jJ m x) (jJ m x);refine#[St s3 fl,.dat (W m x),.dat (~~~(jJ m x)),?_];generalize hT : ~~~(jJ m x)=T at *;generalize hX:W m x=X at *;have e5:aA (rn (n+129)) [] (k+14) b5 [A0,A1,St s2 fl,.dat X,.dat T]=!(.nx,[A0,A1,St s2 fl,.dat X,.dat T]):=by unfold b5;simp! [U,Nq,az (fx:=aY 1 3) rfl,q5,c18,az (fx:=iE 22) rfl,q6,ct]
 have e6:aA (rn (n+129)) [] (k+14) b6 [A0,A1,St s2 fl,.dat X,.dat T]=!(.nx,[A0,A1,St s2 fl,.dat X,.dat T]):=by unfold b6;simp! [U,c22,az (fx:=fK 16 20 21) rfl,q7,cJ]
 have e7:aA (rn (n+129)) [] (k+14) b7 [A0,A1,St s2 fl,.dat X,.dat T]=!(.nx,[A0,A1,St s3 fl,.dat X,.dat T]):=by unfold b7;simp! [U,i0,c35,q8',c34,bu (fx:=eu) rfl,q9',c17,az (fx:=cW 7 11) rfl,q10,cw,c24,az (fx:=gf 23 27) rfl,q11,cl]
 unfold yP;rw[U.b,au e1,au e2,au e3,au e4,au e5,au e6,au e7];rfl
theorem whole(ns: ~~~0)(hl:ns.length<=63):∃g',(rn (n+131)).b [] (k+14) Zt.body [.dat (.fix (ns.map .int)),.no,.no,.no,.no]=!(.rt (.dat (.bl true)),g'):=by
 have loop:=bM (T:=.nm 1) (b:=(rn (n+130)).b [] (k+14) yP) (λ(j:Nat)=>D.int (0+(j:Int)))
  (I:=λl g=>∃(s1 s2 s3 s4:Slot),g=[.dat (.fix (ns.map .int)),s1,s2,s3,s4])
  (step:=λa l g h=>by
   obtain⟨s1,s2,s3,s4,rfl⟩:=h;rw[CS];obtain⟨b2,b3,b4,q⟩:=cell U ns hl a s2 s3 s4;exact#[_,_,rfl,q,_,_,_,_,rfl])
 obtain⟨M,hM,hM2⟩:∃M:Nat,M<=8/\(if ((if (4:Int)<ns.length then 4 else (ns.length:Int))) > 1 then (if (4:Int)<ns.length then 4 else (ns.length:Int))else 1)=(M:Int):=by
  refine#[(if ((if (4:Int)<ns.length then 4 else (ns.length:Int))) > 1 then (if (4:Int)<ns.length then 4 else (ns.length:Int))else 1).toNat,?_,?_]
  . split <;> (try split) <;> lia
  . split <;> (try split) <;> lia
 obtain⟨g2,⟨s1,s2,s3,s4,rfl⟩,h4⟩:=loop (List.range M) [.dat (.fix (ns.map .int)),.no,.no,.no,.no] #[_,_,_,_,rfl];have hv:fT (rn (n+130)) [] (k+14) (.blt .max [↥1,(.blt .min [(.blt .len [⇑0]),↥4])]) [.dat (.fix (ns.map .int)),.no,.no,.no,.no]=!(.int (M:Int),[.dat (.fix (ns.map .int)),.no,.no,.no,.no]):=by rw[<- hM2];simp! [U,qM]
 have hw:cN (rn (n+130)) [] (k+14) false (.cz (.blt .max [↥1,(.blt .min [(.blt .len [⇑0]),↥4])])) [.dat (.fix (ns.map .int)),.no,.no,.no,.no]=!((List.range M).map λ(x:Nat)=>D.int (0+(x:Int)),[.dat (.fix (ns.map .int)),.no,.no,.no,.no]):=by unfold cN;dsimp only;rw[hv];dsimp only;rw[eR (aI M ⋯)];rfl
 have e1:aA (rn (n+130)) [] (k+14) (.loop (.nm 1) (.cz (.blt .max [↥1,(.blt .min [(.blt .len [⇑0]),↥4])])) yP) [.dat (.fix (ns.map .int)),.no,.no,.no,.no]=!(.nx,[.dat (.fix (ns.map .int)),s1,s2,s3,s4]):=by simp only[aA,Tg.iC,hw,h4];simp
 refine#[[.dat (.fix (ns.map .int)),s1,s2,s3,s4],?_];unfold Zt;rw[U.b,au e1];simp! [U,U.e]
end
def kk:Nat:=14
def fuel:Nat:=131
theorem hev(ns: ~~~0)(hl:ns.length<=63):∃g',(run fns fuel).b [] kk Zt.body (fB 5 [.dat (.fix (ns.map .int))])=!(.rt (.dat (.bl true)),g'):=whole (RB fns) ns hl
end iJ
namespace Ev
open L2
def strV:Value->Bool
 |.str _ _=>true
 |_=>false
def Sx:Value->Bool
 |.int _ _=>true
 |_=>false
def Uh:Value->Bool
 |.bool _=>true
 |_=>false
noncomputable def Y5(n:String):Value->Bool
 |.type m=>decide (m=n)
 |_=>false
noncomputable def Y6(q:Addr):Option Value->Bool
 |!(.ref p)=>decide (p=q)
 |_=>false
theorem DP(h:Y5 n v=true):v=.type n:=by
 unfold Y5 at h;split at h
 . rw[i4 h]
 . symm
theorem Sy(h:Y6 q v=true):v=!(.ref q):=by
 unfold Y6 at h;split at h
 . rw[i4 h]
 . symm
def codeOk(K:Frag)(c q:Addr):Bool:=match K.lookup c with
 |some o=>(match o.data with
  |.fields vs=>Y5 "code" o.cls&&Y6 q vs[11]?&&strV (vs.getD 18 .none)&&Sx (vs.getD 7 .none)&&Uh (vs.getD 9 .none)&&Sx (vs.getD 10 .none)&&decide (c≠q)
  |_=>false)
 |none=>false
theorem Hq{K:Frag}{h:Heap}{c q:Addr}(X:K.In h)(e:codeOk K c q=true):PySem.W.CodeHd h c q/\∃o vs,h.get? c=!o/\o.cls=.type "code" /\o.data=.fields vs/\vs[11]?=!(.ref q):=by
 unfold codeOk at e;split at e
 .
  rename_i o ho;split at e
  .
   rename_i vs hv;simp only[eM,l9]at e;obtain⟨⟨⟨⟨⟨⟨e1,e2⟩,e3⟩,e4⟩,e5⟩,e6⟩,e7⟩:=e;have r:=Sy e2;have d:vs.getD 11 .none=.ref q:=by rw[pE,r];rfl
   unfold strV at e3;split at e3
   .
    rename_i file tf h3;unfold Sx at e4;split at e4
    .
     rename_i fl tg h4;unfold Uh at e5;split at e5
     .
      rename_i b h5;unfold Sx at e6;split at e6
      . rename_i tx tt h6;exact#[#[o,vs,file,tf,fl,tg,b,tx,tt,X _ _ ho,DP e1,hv,r,d,h3,h4,h5,h6,e7],o,vs,X _ _ ho,DP e1,hv,r]
      . cases e6
     . cases e5
    . cases e4
   . cases e3
  . cases e
 . cases e
theorem yQ{K:Frag}{o:Obj}{a:Addr}{qs:List Addr}:(qs.map (λq=>(q,o))++K).lookup a=if a∈qs then some o else K.lookup a:=by
 induction qs with
 |nil=>simp
 |cons q qs ih=>
  rw[List.map_cons,List.cons_append,sR];by_cases z:a=q
  . subst z;simp
  .
   have:(a==q)=false:=by simpa using z
   rw[this];simp only[eJ,z,false_or];exact ih
theorem yR{qs:List Addr}{K:Params->Frag}{w:World}{h:Heap}(e:(qs.all λq=>((K w.params).lookup q).isNone)=true)(qqq:PySem.W.InK (sr qs K) w h):(K w.params).In h:=λa o ho=>by
 refine qqq a o ?_;show List.lookup a (qs.map _++K w.params)=_;rw[yQ,eP,ho];intro z;have:=hZ.mp e a z;rw[ho]at this;cases this
theorem Hr{cs qs:List Addr}{K:Params->Frag}{w:World}{h:Heap}(e:(qs.all λq=>((K w.params).lookup q).isNone)=true)(e2:(qs.all λq=>cs.any λc=>codeOk (K w.params) c q)=true)(qqq:PySem.W.InK (sr qs K) w h):∀p∈qs,(∃c,h.TableAt c p ([].toArray))/\(K w.params).lookup p=none:=λp hp=>by
 obtain⟨c,_,hc⟩:=AU.mp (hZ.mp e2 p hp);refine#[#[c,(Hq (yR e qqq) hc).2,qqq _ _ ?_],Option.isNone_iff_eq_none.mp (hZ.mp e p hp)];show List.lookup p (qs.map _++K w.params)=_;rw[yQ,eR hp]
theorem Nu{l:PySem.W.OpenLaw}{n k:Nat}{q:Program}{loose:List Str}{XP:(Str->Option Value)->Heap->Prop}{YP:World->Heap->Prop}{d:DefRec}{K:Params->Frag}{CX:Ii}{sp:Frag->Sp}{x:Str}{T:List Addr}
  (hn:l.most=!n) (hn2:n<=sizeLine) (nX:d.params.defaults=[]) (hr:iK k callerA)
  (hY:∀(w:World) (h:Heap),YP w h->(K w.params).In h) (hT:∀(w:World) (h:Heap),YP w h->∀q∈T,(∃c,h.TableAt c q ([].toArray))/\(K w.params).lookup q=none)
  (F:∀(w:World) (mg:Str->Option Value) (fa:Addr) (h:Heap),(K w.params).In h->h.Ns mainGlobals mg->mg d.name=!(.ref fa)->
   ∃fd:FuncData,(∀(s:Shared) (u:Value),BindsTo s fd #[[u],[]] [(x,u)])/\
    ∀base:Heap,(K w.params).In base->base.Ns mainGlobals mg->rH l.prog w (K w.params) mg base CX k fa fd [x] (sp (K w.params)))
  (Ze:∀(w:World) (H:Hp) (a:Addr) (ns: ~~~0),ns.length<=n->Cg T H->cZ (K w.params) H a (ns.map V.int)->sp (K w.params) [.ref a] H (λv _=>v=.bl true) λ_ _ _=>False)
  (hCX:∀(H:Hp) (s:Shared) (e:Value) (s':Shared),CX [] H s (λ_ _ _=>False) e s'->False) :
  PySem.W.WalkO q loose XP YP l.row.toRowW d [] (λf vs=>PySem.call f vs):=by
 refine Att.v9 hn nX λw s₀ s₁ mg mb fa o pm cd doc a vs ns G qqq ho hd ie hmg hobj hints aJ hg=>?_
 have KX:=hY w _ qqq;obtain⟨fd,hb,hF⟩:=F w mg fa _ KX G.T.g hmg;exact FJ KX (hT w _ qqq) G.T.g G.T.b G.T.builtins G.T.nolimit hg hobj hints (l4 aJ hn2) hr hF hb (λH hO hS=>Ze w H a ns aJ hO hS) λH e s'=>hCX H s₁ e s'
theorem All.of{α:Type}{p:α->Prop}{l:List α}(h:∀a∈l,p a):All p l:=by
 induction l with
 |nil=>exact .nil
 |cons a l ih=>exact .cons (h a b0) (ih λb hb=>h b (bP _ hb))
def noB(K:Frag)(x:Str):Bool:=match PySem.W.nsIn K mainGlobals x with
 |some none=>true
 |_=>false
theorem Y7{K:Frag}{mg:Str->Option Value}{h:Heap}{l:List Str}(X:K.In h)(G:h.Ns mainGlobals mg)(e:l.all (noB K)=true):All (λx=>mg x=none) l:=.of λx hx=>by
 have q:=hZ.mp e x hx;unfold noB at q;split at q
 . rename_i e2;exact PySem.W.mg_none_of X G e2
 . cases q
end Ev
namespace iJ
open L2 Ev
def f0:Fi:=bN (st 6)
def f1:Fi:=bN (st 7)
def f2:Fi:=bN (st 8)
def f3:Fi:=bN (st 10)
def f4:Fi:=bN (st 13)
def f5:Fi:=bN (st 14)
def f6:Fi:=bN (st 15)
def f7:Fi:=bN (st 16)
def f8:Fi:=bN (st 17)
def f9:Fi:=bN (st 18)
def f10:Fi:=bN (st 19)
def f11:Fi:=bN (st 20)
def f12:Fi:=bN (st 22)
def f13:Fi:=bN (st 23)
def f14:Fi:=bN (st 24)
def f15:Fi:=bN (st 28)
def f16:Fi:=bN (st 29)
def f17:Fi:=bN (st 30)
def f18:Fi:=bN (st 31)
def f19:Fi:=bN (st 32)
def f20:Fi:=bN (st 33)
def f21:Fi:=bN (st 34)
def f22:Fi:=bN (st 35)
def f23:Fi:=bN (st 36)
def f24:Fi:=bN (st 37)
def f25:Fi:=bN (st 38)
def f26:Fi:=bN (st 39)
def f27:Fi:=bN (st 40)
def f28:Fi:=bN (st 41)
def f29:Fi:=bN (st 43)
def f30:Fi:=bN (st 44)
def f31:Fi:=bN (st 45)
def f32:Fi:=bN (st 46)
def f33:Fi:=bN (st 47)
def f34:Fi:=bN (st 48)
def f35:Fi:=bN (st 49)
def f36:Fi:=bN (st 50)
def f37:Fi:=bN (st 51)
def f38:Fi:=bN (st 52)
def f39:Fi:=bN (st 53)
def ups:List (Str×List (Addr×Bool)):=[]
noncomputable def P:Pg:=#[[f0,f1,f2,f3,f4,f5,f6,f7,f8,f9,f10,f11,f12,f13,f14,f15,f16,f17,f18,f19,f20,f21,f22,f23,f24,f25,f26,f27,f28,f29,f30,f31,f32,f33,f34,f35,f36,f37,f38,f39],[("MOST_PLACES",.int 6),("MOST_FORMED",.int 5),("MOST_COUNTS",.int 12)],["all", "bool", "enumerate", "int", "isinstance", "len", "list", "max", "min", "range", "sorted", "sum", "tuple"],[],false,[], "KindError",ups]
theorem Y8:Rr P P.fn fns=true:=by decide +kernel
theorem fns_eq:List.zipWith (De P) P.fn fns=P.fn.map (λfi=>bV fi.st):=by kernel_rfl
theorem nLaw:f39.N.length=5:=rfl
theorem hevF:∀ns:List Int,ns.length<=63->∃g',(run fns fuel).b [] kk Zt.body (fB f39.N.length [.dat (.fix (ns.map .int))])=!(.rt (.dat (.bl true)),g'):=by rw[nLaw];exact hev
theorem Sz(P:Params):fh (K P)=[(nat_lit 303,Iw "law")]:=by kernel_rfl
theorem Nv(P:Params):([303].all λq=>((K P).lookup q).isNone)=true:=by kernel_rfl
theorem Nx(P:Params):([303].all λq=>[307].any λc=>codeOk (K P) c q)=true:=by kernel_rfl
theorem bn_no(Q:Params):P.bn.all (noB (K Q))=true:=by kernel_rfl
end iJ
open PySem PySem.W PyProof.Rows
set_option maxHeartbeats 0 in
theorem PySem.Challenge.cw_websbykind_k64_whole_told_counts_holds : PySem.Challenge.rw_websbykind_k64_whole_told_counts.Holds := by
 w_on
 refine PySem.W.holds_law (by decide +kernel) λsaid=>?_
 refine PySem.W.holds_open (q:=iJ.qv) (loose:=[]) (Xt:=λs=>xlAt iJ.qv [] s&&recOk (OpenRow.toRowW PySem.Challenge.rw_websbykind_k64_whole_told_counts.row).records s) (XP:=XL iJ.qv []) (Yf:=λs=>iJ.as2.map s.heap.get?) (Ya:=λw=>(Ev.sr [303] iJ.K w.params).map λp:Nat×Obj=>!p.2) (YP:=InK (Ev.sr [303] iJ.K)) (N:=8000) iJ.hl (InK.of iJ.Zv) InK.keeps (λs e=>xl_of s (Bool.and_eq_true_iff.mp e).1) XL.keeps (by rfl) (by rfl) (by rfl) (λs e=>recFacts_of (Bool.and_eq_true_iff.mp e).2) (by rfl) (by first |assumption |decide +kernel) (by decide +kernel) #[rfl,rfl,rfl,rfl,rfl,by decide +kernel] ?hw ?hc
 (case hw=>w_witness2)
 k_fill
 refine Ev.Nu (l:=PySem.Challenge.rw_websbykind_k64_whole_told_counts) (n:=63) (k:=iJ.kk+1) (x:= "_law_script") (CX:=L2.NB) (K:=iJ.K) (T:=[303]) (sp:=λK=>Ev.Wf K iJ.f39.N 1 λbor g r g'=>(Ev.run iJ.fns iJ.fuel).b bor iJ.kk iJ.Zt.body g=!(.rt r,g')) rfl ⋯ rfl #[rfl,by decide,by decide] (λw h qqq=>Ev.yR (iJ.Nv _) qqq) (λw h qqq=>Ev.Hr (iJ.Nv _) (iJ.Nx _) qqq) ?F ?S ?C
 case F=>
  intro w mg fa h KX G hmg
  have mm:Ev.All (Ev.Rp (L2.KOf KX) mg) iJ.P.fn:=by
   repeat' (first |exact Ev.All.nil |refine Ev.All.cons ?_ ?_)
   all_goals
    dsimp only[L2.KOf]
    exact Ev.fi_mk (by assumption) (by assumption) (by k_is) (by k_is) (by k_is) (by k_is) #[rfl,rfl,rfl,by decide +kernel,by decide +kernel,by decide +kernel,by decide +kernel] (λ_ _ _ _ _ _ us hl=>by first | (obtain⟨_,e⟩:=Ev.len1 hl;subst e;rfl) | (obtain⟨_,_,e⟩:=Ev.len2 hl;subst e;rfl) | (obtain⟨_,_,_,e⟩:=Ev.len3 hl;subst e;rfl) | (obtain⟨_,_,_,_,e⟩:=Ev.len4 hl;subst e;rfl)) ⋯
  have rZ:Ev.LK (L2.KOf KX) mg ("MOST_PLACES",.int 6):=by
   dsimp only[L2.KOf]
   refine' Ev.Ag KX G ?a ⋯
   (case a=>k_is)
  have r9:Ev.LK (L2.KOf KX) mg ("MOST_FORMED",.int 5):=by
   dsimp only[L2.KOf]
   refine' Ev.Ag KX G ?a ⋯
   (case a=>k_is)
  have se:Ev.LK (L2.KOf KX) mg ("MOST_COUNTS",.int 12):=by
   dsimp only[L2.KOf]
   refine' Ev.Ag KX G ?a ⋯
   (case a=>k_is)
  have lm:Ev.XT iJ.P (L2.KOf KX) mg:=Ev.Rq rfl rfl rfl
  have md:Ev.Gu iJ.P (L2.KOf KX) mg:=Ev.md_mk mm (.cons rZ (.cons r9 (.cons se .nil))) (Ev.Y7 KX G (iJ.bn_no _)) .nil lm
  exact Ev.LQ (Ev.X4 iJ.Y8 iJ.fns_eq) md (i:=39) (fi:=iJ.f39) rfl rfl rfl (mm.mem _ (i8 (i:=39) rfl)) hmg
 case S=>exact λw H a ns hl hO hS=>Ev.XZ iJ.hevF (iJ.K w.params) H a ns hl (by rw[iJ.Sz];exact hO) hS
 case C=>exact λ_ _ _ _ z=>z
