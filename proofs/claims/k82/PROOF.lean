import PyProof.Rows.All
import Wide.All
import OpenK.AllK
import Wide.FinOn
import Lean
import PyProof.EqAt
import PyProof.EqKinds
import PyProof.TupleCall
import PySem.Challenge.RW_websbykind_k82_whole_opposites
set_option Elab.async false
set_option linter.all false
set_option compiler.extract_closed false
set_option bootstrap.genMatcherCode false
set_option genSizeOf false
set_option maxHeartbeats 4000000
set_option maxRecDepth 100000
set_option autoImplicit true
open PySem PySem.Spec PyProof.Rows
open PySem.W (Frag)
noncomputable section
local macro_rules | `(⋯)=>`(by first |decide |lia |simp)
local macro_rules | `($x⁻¹)=>`(($x).heap.objs.size)
abbrev aS:=@List.mem_cons_of_mem
abbrev a9:=@PySem.wpAny_bind
abbrev bP:=@List.mem_cons_self
abbrev b0:=@List.getElem?_eq_some_iff
abbrev b6:=@List.size_toArray
abbrev b7:=@PySem.Heap.get?_push_of_some
abbrev b8:=@decide_eq_true_eq
abbrev c8:=@Bool.and_eq_true
abbrev dA:=@List.getElem?_append_left
abbrev dC:=@List.length_map
abbrev dE:=@List.getD_eq_getElem?_getD
abbrev dL:=@List.length_append
abbrev dS:=@List.mem_cons
abbrev d5:=@Nat.le_refl
abbrev d6:=@PySem.wpAny_pure
abbrev eA:=@PySem.Heap.get?_push_size
abbrev eC:=@List.getElem?_append_right
abbrev eD:=@PySem.Heap.lt_size
abbrev eI:=@List.length_cons
abbrev eJ:=@List.all_eq_true
abbrev eM:=@Option.bind_eq_some_iff
abbrev eP:=@if_pos
abbrev eQ:=@if_neg
abbrev eR:=@List.getElem?_set_ne
abbrev fA:=@List.mem_map
abbrev fI:=@Nat.lt_of_lt_of_le
abbrev fN:=@List.nodup_cons
abbrev fR:=@List.getElem?_set_self
abbrev gL:=@List.getElem?_eq_getElem
abbrev gN:=@List.mem_append_right
abbrev hU:=@Bool.false_ne_true
abbrev hV:=@Nat.le_trans
abbrev hZ:=@Nat.ne_of_lt
abbrev i5:=@List.mem_of_getElem?
abbrev i6:=@List.mem_singleton
abbrev i7:=@List.mem_filter
abbrev i8:=@List.length_replicate
abbrev i9:=@PySem.Heap.get?_update_other
abbrev kA:=@PySem.wpAny_holding
abbrev kS:=@List.map_congr_left
abbrev lL:=@decide_eq_true
abbrev lS:=@List.mem_range
abbrev l4:=@of_decide_eq_true
abbrev l5:=@Nat.lt_succ_self
abbrev l6:=@decide_eq_false
abbrev l7:=@List.length_singleton
abbrev l8:=@List.not_mem_nil
abbrev l9:=@PyProof.Rows.callWith_type1
abbrev mB:=@Nat.lt_irrefl
abbrev mE:=@PySem.wpAny_mono
abbrev mI:=@PySem.sizeLine_eq
abbrev mM:=@PySem.wpAny_truthy_bool
abbrev mN:=@List.replicate_succ
abbrev mP:=@Nat.add_sub_cancel_left
abbrev nE:=@List.getElem?_map
abbrev nK:=@List.getElem?_eq_none_iff
abbrev nN:=@Int.toNat_natCast
abbrev nS:=@Option.some.inj
abbrev nV:=@Array.length_toList
abbrev n0:=@Bool.or_eq_true
abbrev n4:=@List.map_append
abbrev oC:=@PySem.Heap.size_push
abbrev oD:=@List.zip_cons_cons
abbrev oI:=@List.Perm.refl
abbrev oP:=@List.lookup_cons
abbrev oQ:=@List.getElem?_take_of_lt
abbrev oT:=@PySem.wpAny_newObj_type
abbrev o4:=@List.append_nil
abbrev o5:=@PySem.W.kia_one
abbrev o6:=@Nat.lt_of_lt_of_eq
abbrev pE:=@List.mem_append_left
abbrev pV:=@List.range_eq_range'
abbrev rV:=@List.length_take
abbrev sB:=@Nat.lt_or_ge
abbrev sK:=@Option.map_eq_some_iff
abbrev sR:=@PySem.wpAny_pyIter_list
abbrev sT:=@PyProof.Rows.slot_tuple_getitem
abbrev tI:=@Nat.lt_succ_of_lt
abbrev tJ:=@List.mem_map_of_mem
abbrev tP:=@Ne.symm
abbrev tS:=@List.length_nil
abbrev t5:=@PySem.Heap.get?_update_self
abbrev t6:=@List.length_set
abbrev t7:=@Bool.eq_iff_iff
abbrev t8:=@PySem.wpAny_pyIter_tuple
abbrev t9:=@List.mem_replicate
abbrev u4:=@Nat.zero_le
abbrev u7:=@if_true
abbrev u8:=@decide_eq_false_iff_not
abbrev vS:=@List.nodup_nil
abbrev v3:=@List.append_assoc
abbrev v4:=@List.nodup_append
abbrev v6:=@List.filterMap_cons
abbrev wE:=@Nat.le_succ
abbrev wP:=@Array.getD_eq_getD_getElem?
abbrev wS:=@Array.perm_iff_toList_perm
abbrev wT:=@PySem.F.slot_tuple_iterator_next
abbrev xI:=@List.range'_succ
abbrev xL:=@PySem.F.plain_min_loop
abbrev yA:=@PySem.wpAny_standAt
abbrev yB:=@List.pairwise_cons
abbrev yY:=@PySem.wpAny_passesOwn
abbrev y0:=@List.flatten_cons
abbrev y3:=@List.flatMap_cons
abbrev y4:=@PySem.mem_of_lookup
abbrev y6:=@PySem.wpAny_callSpecial?_slot
abbrev y7:=@PySem.F.plainAttrs_list
abbrev y8:=@List.mem_singleton_self
abbrev An:=@PySem.wpAny_call_entry
abbrev Ap:=@List.drop_length
abbrev At:=@Nat.lt_of_succ_lt_succ
abbrev AA:=@Bool.false_eq_true
abbrev AB:=@or_false
abbrev AC:=@List.mem_append
abbrev AD:=@PySem.wpAny_loadPart'
abbrev AE:=@List.nil_append
abbrev AF:=@List.getElem?_eq_none
abbrev AG:=@Nat.not_lt_zero
abbrev AH:=@List.take_append_drop
abbrev AI:=@List.set_append_right
abbrev AJ:=@Nat.sub_eq_zero_of_le
abbrev AK:=@List.length_range
abbrev AL:=@Bool.not_eq_true'
abbrev AM:=@List.nodup_iff_pairwise_ne
abbrev AO:=@List.perm_ext_iff_of_nodup
abbrev AQ:=@beq_self_eq_true
abbrev AR:=@PySem.Heap.size_update
abbrev AS:=@List.any_eq_true
abbrev AT:=@List.filter_cons
abbrev AU:=@List.getElem_of_mem
abbrev AV:=@PySem.F.args_tuple_add_2
abbrev AW:=@PySem.call_meets
abbrev AX:=@PySem.AutoSeq1.wpAny_loadPart'
abbrev AY:=@PySem.wpAny_Call_Name_kw
abbrev AZ:=@PySem.F.entry_tuple_add
abbrev A3:=@Option.map_some
abbrev A5:=@PySem.codeAny_builtin
abbrev A6:=@PySem.wpAny_newList
abbrev A7:=@Array.Perm.refl
abbrev A8:=@of_decide_eq_false
abbrev A9:=@Nat.add_sub_cancel
abbrev Bi:=@List.cons.injEq
abbrev Bn:=@Int.emod_lt_of_pos
abbrev Bz:=@List.length_range'
abbrev BA:=@PySem.F.slot_tuple_add
abbrev BC:=@Nat.le_of_succ_le_succ
abbrev BD:=@List.zip_nil_left
abbrev BE:=@PySem.wpAny_field
abbrev BF:=@PySem.F.slot_list_count
abbrev BH:=@PySem.F.plainAttrs_list
abbrev BI:=@List.filter_congr
abbrev BM:=@PySem.wpAny_seqItems
abbrev BN:=@List.all_map
abbrev BO:=@Nat.succ.inj
abbrev BQ:=@Nat.zero_add
abbrev BS:=@List.contains_iff_mem
abbrev BU:=@List.length_filter_le
abbrev BY:=@List.getElem_mem
abbrev B0:=@Nat.le_add_right
abbrev B1:=@List.take_length
abbrev B2:=@List.mem_flatMap
abbrev B3:=@Nat.not_succ_le_zero
abbrev B4:=@List.getElem?_of_mem
abbrev B7:=@List.sum_cons
abbrev B9:=@List.of_mem_zip
abbrev Cc:=@List.getElem?_range
abbrev Cf:=@Bool.decide_and
abbrev Cn:=@Int.emod_nonneg
abbrev Co:=@if_false
abbrev Cs:=@PySem.wpAny_typeOf
abbrev CA:=@Int.zero_add
abbrev CB:=@Bool.and_false
abbrev CD:=@PySem.Walks.list
theorem nt{p:Prop}(h:false=true):p:=Bool.noConfusion h
namespace L2
def iW(s:Stmt):Arguments:=match s with
 |.FunctionDef _ a _ _ _ _ _ _ _ _=>a
 |_=>{ posonlyargs:=[],args:=[],vararg:=none,kwonlyargs:=[],kw_defaults:=[],kwarg:=none,defaults:=[]}
def cC(s:Stmt):List Stmt:=match s with
 |.FunctionDef _ _ b _ _ _ _ _ _ _=>b
 |_=>[]
def aZ(s:Stmt):Scope:=match s with
 |.FunctionDef _ _ _ _ _ _ sc _ _ _=>sc
 |_=>{ kind:=.function,names:=[],isGenerator:=false,isCoroutine:=false}
end L2
namespace Ev
open L2
noncomputable def qY(q:Addr)(K:Params->Frag)(P:Params):Frag:=(q,{ cls:=.none,data:=.fields #[]})::K P
section
open PySem.W
noncomputable def Jz(tb:String->Option Builtin)(p:Program)(w:World)(n₀:Nat)(ann:Option Value):Nat->SharedT->Thread->Option SharedT
 | 0,_,_=>none
 |n+1,s,t=>match through t with
  |true=>some s
  |false=>match stepOk n₀ ann t with
   |false=>none
   |true=>match stepT (denote tb) p w s t with
    |some (s',t')=>Jz tb p w n₀ ann n s' t'
    |none=>none
theorem za{tb:String->Option Builtin}{p:Program}{w:World}{n₀:Nat}{ann:Option Value}:∀{n:Nat}{s s':SharedT}{t:Thread},Jz tb p w n₀ ann n s t=some s'->topRun tb p w n₀ ann n s.abs t=some s'.abs
 | 0,_,_,_,h=>by cases h
 |n+1,s,s',t,h=>by
  unfold Jz at h;unfold topRun;cases he:through t with
  |true=>rw[he]at h;cases h;rfl
  |false=>
   rw[he]at h;cases hk:stepOk n₀ ann t with
   |false=>rw[hk]at h;cases h
   |true=>
    rw[hk]at h;cases hs:stepT (denote tb) p w s t with
    |none=>rw[hs]at h;cases h
    |some r=>obtain⟨s₂,t₂⟩:=r;rw[hs]at h;rw[stepT_spec hs];exact za h
noncomputable def Oj:BT->Nat->List Obj->BT
 |t,_,[]=>t
 |t,n,o::os=>Oj (t.ins n o) (n+1) os
noncomputable def Eb(P:Params):BT:=Oj .nil 0 (boot_heap P).objs.toList
theorem Ec(P:Params):absHeap (Eb P) 11 (boot_heap P).life=boot_heap P:=by kernel_rfl
noncomputable abbrev AN (P:Params):Option Value:=(boot_heap P).nsMap mainGlobals "__annotations__"
theorem Am{p q:Program}{loose:List Str}{Xt:Shared->Bool}{α:Type}{Yf:Shared->α}{Ya:World->α}{N:Nat}{ann:Option Value}
  (e:opening p=plainProg p.main.scope.names) (hN:Nat.ble 600 N=true) (f:∀s,fenceModules? p s=some s) (ha:∀P,AN P=ann)
  (run:∀(w:World) (os:OsState),(Jz treeTable p w 11 ann N ⟨Eb w.params,11,(boot_heap w.params).life,#[],boot_drawn,boot_toks,os⟩ (topStub p)).map (λs=>
   (staticsOk (importedModules p.main.body) (boot_heap w.params) s.abs.heap&&namesBound p s.abs.heap&&gensDone s.abs&&laidKept (boot_heap w.params) s.abs.heap,openSeen q loose (importedModules p.main.body) Xt true s.abs,Yf s.abs))=some (true,openGood q loose,Ya w)):LeftO p q loose Xt Yf Ya N:=λw=>by
 obtain⟨⟨h,gs,d,k,os⟩,e1,e2⟩:=sK.mp (boot_open e hN f w);obtain⟨rfl,rfl,rfl,rfl⟩:h=boot_heap w.params/\gs=Array.mk []/\d=boot_drawn/\k=boot_toks:=by simpa using e2
 obtain⟨s,r1,r2⟩:=sK.mp (run w os);obtain⟨l1,l2,l3⟩:_/\_/\_:=by simpa only[Prod.mk.injEq]using r2
 have r:=za r1;unfold openEnds;rw[e1];show (topFrom treeTable p w N _).map _=_;have z0:((boot_heap w.params).isNs mainGlobals&&(Array.mk []:Array GenState).size==0)=true:=by kernel_rfl
 have t:topFrom treeTable p w N ⟨boot_heap w.params,Array.mk [],boot_drawn,boot_toks,os⟩=some s.abs:=by
  unfold topFrom;dsimp only;rw[z0];have r':topRun treeTable p w (boot_heap w.params).objs.size ((boot_heap w.params).nsMap mainGlobals "__annotations__") N ⟨boot_heap w.params,Array.mk [],boot_drawn,boot_toks,os⟩ (topStub p)=some s.abs:=by
   have:=ha w.params;unfold AN at this;rw[this];have z:SharedT.abs ⟨Eb w.params,11,(boot_heap w.params).life,#[],boot_drawn,boot_toks,os⟩=⟨boot_heap w.params,Array.mk [],boot_drawn,boot_toks,os⟩:=by unfold SharedT.abs;dsimp only;rw[Ec]
   rw[z]at r;exact r
  rw[r'];show (match staticsOk (importedModules p.main.body) (boot_heap w.params) s.abs.heap&&namesBound p s.abs.heap&&gensDone s.abs&&laidKept (boot_heap w.params) s.abs.heap with |true=>_ |false=>_)=_
  rw[l1]
 rw[t];exact congrArg some (Prod.ext l2 l3)
theorem V2(P:Params):AN P=some (.ref 6):=by kernel_rfl
end
end Ev
namespace bL
open L2 Ev
def st(j:Nat):Stmt:=PySem.Challenge.pw_websbykind_k82_whole_opposites.main.body.getD j (.Pass ⟨0,0,0,0⟩)
noncomputable def de(P:Params)(s:Str)(t:Tok)(v:Value):DictEntry:=⟨PyData.keyHash P s,.str s t,v⟩
noncomputable def co(vs:Array Value):Obj:=⟨.type "code",none,.fields vs,#[]⟩
noncomputable def fo(j:Nat)(n:Str)(kV doc pm:Value)(an:Option Addr)(fW ct:Value):Obj:=⟨.type "function",none,.func (PySem.W.fnOf n n (iW (st j)) (cC (st j)) (aZ (st j)) .none kV doc pm an fW ct),#[]⟩
noncomputable def ce(n:Str)(b a s r t u:Nat):Obj:=⟨.type "type",none,.cls ⟨n,[.ref b],[.ref a,.ref b,.type "ValueError",.type "Exception",.type "BaseException",.type "object"],s,n,true,[],[],false,none,false⟩,#[some (.ref r),none,some (.str n t),some (.str n u),some (.builtin "ValueError.__new__"),some (.bool true)]⟩
def cd(n:Str)(t l p r:Nat)(x y z:Value)(u:Nat):Obj:=co #[.str n t,.str n (t+1),.str "/claim/cut.py" (t+2),.int l 0,.int p 0,.int 0 0,.int 0 0,.int 3 0,.ref r,.bool true,.int 181 0,.ref (r+1),.none,x,y,z,.int u 0,.int l 0,.str "/claim/cut.py" (u+1)]
def fq(j:Nat)(n:Str)(m:Value)(c:Addr):Obj:=fo j n .none .none m none (.ref c) .none
def m0:Value:=.str "websbykind.whole" 271
def m1:Value:=.str "websbykind.kinds" 308
def m2:Value:=.str "websbykind.webs" 370
def m3:Value:=.str "websbykind.alike" 468
def m4:Value:=.str "websbykind.pairs" 510
def m5:Value:=.str "websbykind.opposites" 534
def m6:Value:=.str "websbykind.forms" 561
def m7:Value:=.str "law_websbykind_k82_whole_opposites" 571
def K(P:Params):Frag:=
 (nat_lit 3,⟨.type "dict",none,.dict #[de P "__name__" 165 (.str "law_websbykind_k82_whole_opposites" 571),de P "__doc__" 166 (.none),de P "__package__" 167 (.none),de P "__loader__" 168 (.builtin "__main__.__loader__#opaque"),de P "__spec__" 169 (.none),de P "__annotations__" 170 (.ref 6),de P "__builtins__" 171 (.ref 4),de P "__file__" 173 (.str "/claim/cut.py" 172),de P "__cached__" 174 (.none),de P "KindError" 206 (.ref 24),de P "NoWeb" 222 (.ref 37),de P "NoNumber" 238 (.ref 49),de P "NoTurn" 254 (.ref 61),de P "NoKind" 270 (.ref 73),de P "is_whole" 279 (.ref 82),de P "is_within" 288 (.ref 89),de P "must_be_within" 297 (.ref 96),de P "times_itself" 307 (.ref 103),de P "MOST_NAMES" 311 (.int 9 310),de P "is_kind" 317 (.ref 108),de P "is_falling" 323 (.ref 113),de P "must_be_kind" 331 (.ref 120),de P "all_kinds" 338 (.ref 127),de P "kinds_up_to" 349 (.ref 134),de P "turns_many" 360 (.ref 141),de P "orders_many" 369 (.ref 148),de P "MOST_PLACES" 373 (.int 6 372),de P "is_web" 379 (.ref 153),de P "is_tie" 385 (.ref 158),de P "is_rising" 391 (.ref 163),de P "must_be_web" 398 (.ref 170),de P "is_turn" 404 (.ref 175),de P "must_be_turn" 412 (.ref 182),de P "turned" 420 (.ref 189),de P "led_on" 426 (.ref 194),de P "tie_of" 434 (.ref 201),de P "pairs_of" 440 (.ref 206),de P "tied_places" 446 (.ref 211),de P "behind" 452 (.ref 216),de P "rounds_along" 458 (.ref 221),de P "round_from" 467 (.ref 228),de P "first_turn" 478 (.ref 235),de P "own_turns" 485 (.ref 242),de P "turns_to" 491 (.ref 247),de P "fits" 497 (.ref 252),de P "all_turns" 503 (.ref 257),de P "form" 509 (.ref 262),de P "rounds_of_pairs" 517 (.ref 267),de P "pair_lengths" 523 (.ref 272),de P "turn_with" 533 (.ref 279),de P "opposite" 541 (.ref 284),de P "opposite_turn" 548 (.ref 291),de P "opposite_many" 554 (.ref 296),de P "opposing_many" 560 (.ref 301),de P "MOST_FORMED" 564 (.int 5 563),de P "all_forms" 570 (.ref 306),de P "_law_cell_at" 580 (.ref 313),de P "_law_state" 589 (.ref 320),de P "_law_take" 599 (.ref 327),de P "_law_pairs" 605 (.ref 332),de P "_law_mixed_row" 615 (.ref 339),de P "_law_web" 621 (.ref 344),de P "_law_turn" 632 (.ref 351),de P "_law_right" 642 (.ref 358),de P "law" 648 (.ref 363)] 65,#[]⟩) ::
 (nat_lit 4,⟨.type "module",(some 0),.plain,#[]⟩) ::
 (nat_lit 81,cd "is_whole" 273 13 1 76 (.ref 78) (.ref 79) (.ref 80) 277) ::
 (nat_lit 82,fq 7 "is_whole" m0 81) ::
 (nat_lit 88,cd "is_within" 280 15 3 83 (.ref 85) (.ref 86) (.ref 87) 286) ::
 (nat_lit 89,fq 8 "is_within" m0 88) ::
 (nat_lit 95,cd "must_be_within" 289 17 3 90 (.ref 92) (.ref 93) (.ref 94) 295) ::
 (nat_lit 96,fq 9 "must_be_within" m0 95) ::
 (nat_lit 102,cd "times_itself" 298 20 2 97 (.ref 99) (.ref 100) (.ref 101) 305) ::
 (nat_lit 103,fq 10 "times_itself" m0 102) ::
 (nat_lit 107,cd "is_kind" 312 27 2 104 .none .none (.ref 106) 315) ::
 (nat_lit 108,fq 13 "is_kind" m1 107) ::
 (nat_lit 112,cd "is_falling" 318 34 1 109 .none .none (.ref 111) 321) ::
 (nat_lit 113,fq 14 "is_falling" m1 112) ::
 (nat_lit 119,cd "must_be_kind" 324 36 2 114 (.ref 116) (.ref 117) (.ref 118) 329) ::
 (nat_lit 120,fq 15 "must_be_kind" m1 119) ::
 (nat_lit 126,cd "all_kinds" 332 39 1 121 (.ref 123) (.ref 124) (.ref 125) 336) ::
 (nat_lit 127,fq 16 "all_kinds" m1 126) ::
 (nat_lit 133,cd "kinds_up_to" 339 42 2 128 (.ref 130) (.ref 131) (.ref 132) 347) ::
 (nat_lit 134,fq 17 "kinds_up_to" m1 133) ::
 (nat_lit 140,cd "turns_many" 350 50 2 135 (.ref 137) (.ref 138) (.ref 139) 358) ::
 (nat_lit 141,fq 18 "turns_many" m1 140) ::
 (nat_lit 147,cd "orders_many" 361 56 1 142 (.ref 144) (.ref 145) (.ref 146) 367) ::
 (nat_lit 148,fq 19 "orders_many" m1 147) ::
 (nat_lit 152,cd "is_web" 374 63 1 149 .none .none (.ref 151) 377) ::
 (nat_lit 153,fq 22 "is_web" m2 152) ::
 (nat_lit 157,cd "is_tie" 380 70 2 154 .none .none (.ref 156) 383) ::
 (nat_lit 158,fq 23 "is_tie" m2 157) ::
 (nat_lit 162,cd "is_rising" 386 74 1 159 .none .none (.ref 161) 389) ::
 (nat_lit 163,fq 24 "is_rising" m2 162) ::
 (nat_lit 169,cd "must_be_web" 392 76 1 164 (.ref 166) (.ref 167) (.ref 168) 396) ::
 (nat_lit 170,fq 25 "must_be_web" m2 169) ::
 (nat_lit 174,cd "is_turn" 399 79 2 171 .none .none (.ref 173) 402) ::
 (nat_lit 175,fq 26 "is_turn" m2 174) ::
 (nat_lit 181,cd "must_be_turn" 405 84 2 176 (.ref 178) (.ref 179) (.ref 180) 410) ::
 (nat_lit 182,fq 27 "must_be_turn" m2 181) ::
 (nat_lit 188,cd "turned" 413 87 2 183 (.ref 185) (.ref 186) (.ref 187) 418) ::
 (nat_lit 189,fq 28 "turned" m2 188) ::
 (nat_lit 193,cd "led_on" 421 91 2 190 .none .none (.ref 192) 424) ::
 (nat_lit 194,fq 29 "led_on" m2 193) ::
 (nat_lit 200,cd "tie_of" 427 94 2 195 (.ref 197) (.ref 198) (.ref 199) 432) ::
 (nat_lit 201,fq 30 "tie_of" m2 200) ::
 (nat_lit 205,cd "pairs_of" 435 96 1 202 .none .none (.ref 204) 438) ::
 (nat_lit 206,fq 31 "pairs_of" m2 205) ::
 (nat_lit 210,cd "tied_places" 441 98 2 207 .none .none (.ref 209) 444) ::
 (nat_lit 211,fq 32 "tied_places" m2 210) ::
 (nat_lit 215,cd "behind" 447 104 3 212 .none .none (.ref 214) 450) ::
 (nat_lit 216,fq 33 "behind" m2 215) ::
 (nat_lit 220,cd "rounds_along" 453 108 2 217 .none .none (.ref 219) 456) ::
 (nat_lit 221,fq 34 "rounds_along" m2 220) ::
 (nat_lit 227,cd "round_from" 459 111 2 222 (.ref 224) (.ref 225) (.ref 226) 465) ::
 (nat_lit 228,fq 35 "round_from" m2 227) ::
 (nat_lit 234,cd "first_turn" 470 117 2 229 (.ref 231) (.ref 232) (.ref 233) 476) ::
 (nat_lit 235,fq 37 "first_turn" m3 234) ::
 (nat_lit 241,cd "own_turns" 479 124 1 236 (.ref 238) (.ref 239) (.ref 240) 483) ::
 (nat_lit 242,fq 38 "own_turns" m3 241) ::
 (nat_lit 246,cd "turns_to" 486 127 2 243 .none .none (.ref 245) 489) ::
 (nat_lit 247,fq 39 "turns_to" m3 246) ::
 (nat_lit 251,cd "fits" 492 135 3 248 .none .none (.ref 250) 495) ::
 (nat_lit 252,fq 40 "fits" m3 251) ::
 (nat_lit 256,cd "all_turns" 498 139 1 253 .none .none (.ref 255) 501) ::
 (nat_lit 257,fq 41 "all_turns" m3 256) ::
 (nat_lit 261,cd "form" 504 144 1 258 .none .none (.ref 260) 507) ::
 (nat_lit 262,fq 42 "form" m3 261) ::
 (nat_lit 266,cd "rounds_of_pairs" 512 148 1 263 .none .none (.ref 265) 515) ::
 (nat_lit 267,fq 44 "rounds_of_pairs" m4 266) ::
 (nat_lit 271,cd "pair_lengths" 518 151 2 268 .none .none (.ref 270) 521) ::
 (nat_lit 272,fq 45 "pair_lengths" m4 271) ::
 (nat_lit 278,cd "turn_with" 524 154 1 273 (.ref 275) (.ref 276) (.ref 277) 531) ::
 (nat_lit 279,fq 46 "turn_with" m4 278) ::
 (nat_lit 283,cd "opposite" 536 162 1 280 .none .none (.ref 282) 539) ::
 (nat_lit 284,fq 48 "opposite" m5 283) ::
 (nat_lit 290,cd "opposite_turn" 542 166 1 285 (.ref 287) (.ref 288) (.ref 289) 546) ::
 (nat_lit 291,fq 49 "opposite_turn" m5 290) ::
 (nat_lit 295,cd "opposite_many" 549 168 1 292 .none .none (.ref 294) 552) ::
 (nat_lit 296,fq 50 "opposite_many" m5 295) ::
 (nat_lit 300,cd "opposing_many" 555 171 2 297 .none .none (.ref 299) 558) ::
 (nat_lit 301,fq 51 "opposing_many" m5 300) ::
 (nat_lit 305,cd "all_forms" 565 178 1 302 .none .none (.ref 304) 568) ::
 (nat_lit 306,fq 54 "all_forms" m6 305) ::
 (nat_lit 312,cd "_law_cell_at" 573 186 2 307 (.ref 309) (.ref 310) (.ref 311) 578) ::
 (nat_lit 313,fq 56 "_law_cell_at" m7 312) ::
 (nat_lit 319,cd "_law_state" 581 190 2 314 (.ref 316) (.ref 317) (.ref 318) 587) ::
 (nat_lit 320,fq 57 "_law_state" m7 319) ::
 (nat_lit 326,cd "_law_take" 590 195 2 321 (.ref 323) (.ref 324) (.ref 325) 597) ::
 (nat_lit 327,fq 58 "_law_take" m7 326) ::
 (nat_lit 331,cd "_law_pairs" 600 204 1 328 .none .none (.ref 330) 603) ::
 (nat_lit 332,fq 59 "_law_pairs" m7 331) ::
 (nat_lit 338,cd "_law_mixed_row" 606 209 2 333 (.ref 335) (.ref 336) (.ref 337) 613) ::
 (nat_lit 339,fq 60 "_law_mixed_row" m7 338) ::
 (nat_lit 343,cd "_law_web" 616 215 2 340 .none .none (.ref 342) 619) ::
 (nat_lit 344,fq 61 "_law_web" m7 343) ::
 (nat_lit 350,cd "_law_turn" 622 229 2 345 (.ref 347) (.ref 348) (.ref 349) 630) ::
 (nat_lit 351,fq 62 "_law_turn" m7 350) ::
 (nat_lit 357,cd "_law_right" 633 238 2 352 (.ref 354) (.ref 355) (.ref 356) 640) ::
 (nat_lit 358,fq 63 "_law_right" m7 357) ::
 (nat_lit 362,cd "law" 643 248 1 359 .none .none (.ref 361) 646) ::
 (nat_lit 363,fq 64 "law" m7 362)::[]
noncomputable def as:List Addr:=nat_lit 3::nat_lit 4::nat_lit 81::nat_lit 82::nat_lit 88::nat_lit 89::nat_lit 95::nat_lit 96::nat_lit 102::nat_lit 103::nat_lit 107::nat_lit 108::nat_lit 112::nat_lit 113::nat_lit 119::nat_lit 120::nat_lit 126::nat_lit 127::nat_lit 133::nat_lit 134::nat_lit 140::nat_lit 141::nat_lit 147::nat_lit 148::nat_lit 152::nat_lit 153::nat_lit 157::nat_lit 158::nat_lit 162::nat_lit 163::nat_lit 169::nat_lit 170::nat_lit 174::nat_lit 175::nat_lit 181::nat_lit 182::nat_lit 188::nat_lit 189::nat_lit 193::nat_lit 194::nat_lit 200::nat_lit 201::nat_lit 205::nat_lit 206::nat_lit 210::nat_lit 211::nat_lit 215::nat_lit 216::nat_lit 220::nat_lit 221::nat_lit 227::nat_lit 228::nat_lit 234::nat_lit 235::nat_lit 241::nat_lit 242::nat_lit 246::nat_lit 247::nat_lit 251::nat_lit 252::nat_lit 256::nat_lit 257::nat_lit 261::nat_lit 262::nat_lit 266::nat_lit 267::nat_lit 271::nat_lit 272::nat_lit 278::nat_lit 279::nat_lit 283::nat_lit 284::nat_lit 290::nat_lit 291::nat_lit 295::nat_lit 296::nat_lit 300::nat_lit 301::nat_lit 305::nat_lit 306::nat_lit 312::nat_lit 313::nat_lit 319::nat_lit 320::nat_lit 326::nat_lit 327::nat_lit 331::nat_lit 332::nat_lit 338::nat_lit 339::nat_lit 343::nat_lit 344::nat_lit 350::nat_lit 351::nat_lit 357::nat_lit 358::nat_lit 362::nat_lit 363::[]
def as2:List Addr:=nat_lit 360::as
noncomputable def qv:Program:={ PySem.Challenge.pw_websbykind_k82_whole_opposites with main:={ PySem.Challenge.pw_websbykind_k82_whole_opposites.main with body:=[st 1,st 2,st 3,st 4,st 5,st 7,st 8,st 9,st 10,st 12,st 13,st 14,st 15,st 16,st 17,st 18,st 19,st 21,st 22,st 23,st 24,st 25,st 26,st 27,st 28,st 29,st 30,st 31,st 32,st 33,st 34,st 35,st 37,st 38,st 39,st 40,st 41,st 42,st 44,st 45,st 46,st 48,st 49,st 50,st 51,st 53,st 54,st 56,st 57,st 58,st 59,st 60,st 61,st 62,st 63,st 64]}}
theorem V3(P:Params):as2=(qY 360 K P).map (·.1):=by kernel_rfl
theorem op:PySem.W.opening PySem.Challenge.rw_websbykind_k82_whole_opposites.row.prog=PySem.W.plainProg PySem.Challenge.rw_websbykind_k82_whole_opposites.row.prog.main.scope.names:=by kernel_rfl
theorem fe:∀s,PySem.fenceModules? PySem.Challenge.rw_websbykind_k82_whole_opposites.row.prog s=some s:=λs=>by kernel_rfl
theorem hl:PySem.W.LeftO PySem.Challenge.rw_websbykind_k82_whole_opposites.row.prog qv [] (λs=>PySem.W.xlAt qv [] s&&PySem.W.recOk (PySem.W.OpenRow.toRowW PySem.Challenge.rw_websbykind_k82_whole_opposites.row).records s) (λs=>as2.map s.heap.get?) (λw=>(qY 360 K w.params).map λp:Nat×Obj=>some p.2) 8000:=Am op ⋯ fe V2 λw os=>by kernel_rfl
end bL
namespace Ev
open PySem PySem.W
end Ev
namespace L2
abbrev Key:=Sum Int Str
noncomputable def qZ:Key->Value->Bool
 |.inl k,v=>Value.isInt k v
 |.inr x,v=>Value.isStrOf x v
noncomputable def Z0(w:World):Key->Int
 |.inl k=>hashInt k
 |.inr x=>hashStr w x
theorem bJ:∀{k:Key}{v:Value},qZ k v=true->(∃i t,k=Sum.inl i/\v=Value.int i t)\/(∃x t,k=Sum.inr x/\v=Value.str x t)
 |.inl i,v,h=>by
  obtain⟨t,e⟩:=Value.isInt_shape (k:=i) (v:=v) h;exact .inl ⟨i,t,rfl,e⟩
 |.inr x,v,h=>by
  obtain⟨t,e⟩:=Value.isStrOf_shape (x:=x) (v:=v) h;exact .inr ⟨x,t,rfl,e⟩
theorem Ao(i:Int)(t:Tok):qZ (.inl i) (.int i t)=true:=by simp[qZ,Value.isInt]
theorem Aq(x:Str)(t:Tok):qZ (.inr x) (.str x t)=true:=by simp[qZ,Value.isStrOf]
theorem P5(a b:Int):decide ((Sum.inl a:Key)=Sum.inl b)=(a==b):=by
 by_cases e:a=b
 . subst e;simp
 .
  have h : ¬ (Sum.inl a:Key)=Sum.inl b:=λq=>e (Sum.inl.inj q)
  rw[l6 h];exact (beq_eq_false_iff_ne.mpr e).symm
theorem P6(a b:Str):decide ((Sum.inr a:Key)=Sum.inr b)=decide (a=b):=by
 by_cases e:a=b
 . subst e;simp
 .
  have h : ¬ (Sum.inr a:Key)=Sum.inr b:=λq=>e (Sum.inr.inj q)
  rw[l6 h,l6 e]
theorem P7(a:Int)(b:Str):decide ((Sum.inl a:Key)=Sum.inr b)=false:=l6 (λq=>nomatch q)
theorem P8(a:Str)(b:Int):decide ((Sum.inr a:Key)=Sum.inl b)=false:=l6 (λq=>nomatch q)
def gP(prog:Program)(w:World):PySem.KeyKind prog w Key where
 is:=qZ
 hash:=Z0 w
 inj:=λv a b ha hb=>by
  rcases bJ ha with ⟨i,t,rfl,rfl⟩ |⟨x,t,rfl,rfl⟩
  .
   rcases bJ hb with ⟨j,u,rfl,e⟩ |⟨y,u,rfl,e⟩
   . injection e with e1 _;rw[e1]
   . exact nomatch e
  .
   rcases bJ hb with ⟨j,u,rfl,e⟩ |⟨y,u,rfl,e⟩
   . exact nomatch e
   . injection e with e1 _;rw[e1]
 byValue:=λk v h=>by
  rcases bJ h with ⟨i,t,rfl,rfl⟩ |⟨x,t,rfl,rfl⟩ <;> rfl
 pyHash:=λhv h=>by
  rcases bJ hv with ⟨i,t,rfl,rfl⟩ |⟨x,t,rfl,rfl⟩
  . exact wpAny_pyHash_int h
  . exact wpAny_pyHash_str h
 eqBool:=λhu hv h=>by
  rcases bJ hu with ⟨i,t,rfl,rfl⟩ |⟨x,t,rfl,rfl⟩
  .
   rcases bJ hv with ⟨j,u,rfl,rfl⟩ |⟨y,u,rfl,rfl⟩
   . rw[P5]at h;exact wpAny_eqBool_int h
   . rw[P7]at h;exact SeqAt.EqAt.int_str i t y u _ _ _ _ h
  .
   rcases bJ hv with ⟨j,u,rfl,rfl⟩ |⟨y,u,rfl,rfl⟩
   . rw[P8]at h;exact SeqAt.EqAt.str_int x t j u _ _ _ _ h
   . rw[P6]at h;exact wpAny_eqBool_str h
 «strs»:=λk x t v h=>by
  rcases bJ h with ⟨i,u,rfl,e⟩ |⟨y,u,rfl,e⟩
  . exact nomatch e
  . injection e with e1 _;subst e1;cases v <;> rfl
theorem uQ(prog:Program)(w:World)(i:Int)(t:Tok):(gP prog w).is (.inl i) (.int i t)=true:=Ao i t
theorem uR(prog:Program)(w:World)(x:Str)(t:Tok):(gP prog w).is (.inr x) (.str x t)=true:=Aq x t
inductive V where
 |non |bl (b:Bool) |int (i:Int) |str (x:Str) |Ol (b:Array UInt8) |flt (b:UInt64) |ref (a:Addr) |ty (n:String)
 deriving DecidableEq
noncomputable def RelV:V->Value->Prop
 |.non,u=>u=Value.none
 |.bl b,u=>u=Value.bool b
 |.int i,u=>∃t,u=Value.int i t
 |.str x,u=>∃t,u=Value.str x t
 |.Ol b,u=>∃t,u=Value.bytes b t
 |.flt b,u=>∃t,u=Value.float b t
 |.ref a,u=>u=Value.ref a
 |.ty n,u=>u=Value.type n
abbrev Vals:List V->List Value->Prop:=Paired RelV
theorem Vals.length{xs:List V}{us:List Value}(r:Vals xs us):xs.length=us.length:=Paired.length r
theorem Vals.get:∀{xs:List V}{us:List Value}{i:Nat}{x:V},Vals xs us->xs[i]?=some x->∃u,us[i]?=some u/\RelV x u
 |_,_,_,_,.nil,e=>by simp at e
 |_,_,0,_,.cons r _,e=>by simp at e;subst e;exact⟨_,rfl,r⟩
 |_,_,i+1,x,.cons _ t,e=>by
  obtain⟨u,h1,h2⟩:=Vals.get (i:=i) (x:=x) t (by simpa using e)
  exact⟨u,by simpa using h1,h2⟩
theorem Vals.set{x:V}{u:Value}(r:RelV x u):∀{xs:List V}{us:List Value} (i:Nat),Vals xs us->Vals (xs.set i x) (us.set i u)
 |_,_,_,.nil=>.nil
 |_,_,0,.cons _ t=>.cons r t
 |_,_,i+1,.cons q t=>.cons q (Vals.set r i t)
theorem Vals.append:∀{xs ys:List V}{us ws:List Value},Vals xs us->Vals ys ws->Vals (xs++ys) (us++ws)
 |_,_,_,_,.nil,s=>s
 |_,_,_,_,.cons r t,s=>.cons r (Vals.append t s)
theorem Vals.take:∀{xs:List V}{us:List Value} (n:Nat),Vals xs us->Vals (xs.take n) (us.take n)
 |_,_,0,_=>.nil
 |_,_,_+1,.nil=>.nil
 |_,_,n+1,.cons r t=>.cons r (Vals.take n t)
theorem Vals.drop:∀{xs:List V}{us:List Value} (n:Nat),Vals xs us->Vals (xs.drop n) (us.drop n)
 |_,_,0,r=>r
 |_,_,_+1,.nil=>.nil
 |_,_,n+1,.cons _ t=>Vals.drop n t
def V4:Option V->Option Value->Prop
 |some v,some u=>RelV v u
 |none,none=>True
 |_,_=>False
def KV{κ:Type}:List (κ×V)->List (κ×Value)->Prop:=Paired λ(p:κ×V) (q:κ×Value)=>p.1=q.1/\RelV p.2 q.2
noncomputable def kV:Key->V
 |.inl i=>.int i
 |.inr x=>.str x
inductive HO where
 |lst (xs:List V)
 |tup (xs:List V)
 |dK (eT:List (Key×V)) |dT (eT:List (List Key×V))
 |set (S:Int->Bool) (n:Nat)
 |ins (C dx:Addr) (fs:List (Str×V))
 |own (x:Addr)
 |xd (fs:List (Str×V))
 |met (f x:Addr)
 |Z1 (lo hi:Int)
 |Dy (o:Obj) (u:HO)
 |Dz (ps:Array Value)
 |ext (φ:Heap->Prop)
abbrev Hp:=Addr->Option HO
noncomputable def upd(H:Hp)(a:Addr)(o:HO):Hp:=λb=>if b=a then some o else H b
theorem aI:upd H a o a=some o:=by unfold upd;rw[eP rfl]
theorem aF(h:b≠a):upd H a o b=H b:=by unfold upd;rw[eQ h]
theorem aO{H:Hp}{a b:Addr}{o:HO}(h:H a=some o)(h':H b=none):a≠b:=by intro e;subst e;rw[h]at h';cases h'
def g9(h:Heap)(a:Addr)(aA:Array Value):Prop:=∃o,h.get? a=some o/\(o.cls=.type "tuple" /\∃n,o.data=.seq aA n)/\o.dict=none
theorem g9.tup{h:Heap}{a:Addr}{aA:Array Value}(x:g9 h a aA):IsTup h a aA:=let ⟨o,e,c,_⟩:=x;⟨o,e,c⟩
theorem g9.new(h:Heap)(aA:Array Value):g9 (h.push { cls:=.type "tuple",data:=.seq aA}) h.objs.size aA:=⟨_,eA _ rfl,⟨rfl,_,rfl⟩,rfl⟩
section
variable(P:Program)(w:World)
def eE(H:Hp)(h:Heap)(a:Addr):HO->Prop
 |.lst xs=>xs.length<=sizeLine/\∃(aA:List Value) (n:Nat),Vals xs aA/\h.get? a=some { cls:=.type "list",data:=.seq aA.toArray n}
 |.tup xs=>xs.length<=sizeLine/\∃aA:List Value,Vals xs aA/\g9 h a aA.toArray
 |.dK eT=>eT.length<=sizeLine/\(a==sysModules)=false/\∃vs,KV eT vs/\h.DictOf (gP P w) a vs
 |.dT eT=>eT.length<=sizeLine/\(a==sysModules)=false/\∃xs:List (List Key×Addr×Value),
   Paired (λ(p:List Key×V) (q:List Key×Addr×Value)=>p.1=q.1/\H q.2.1=some (.tup (p.1.map kV))/\RelV p.2 q.2.2) eT xs/\
   ∃o es ep,h.get? a=some o/\o.ExactDict/\o.data=.dict es ep/\es.toList=xs.map (entryOfKey (tupleKind (gP P w)))/\(xs.map (·.1)).Nodup
 |.set S n=>h.SetOf (intKind P w) a S n
 |.ins C dx fs=>H dx=some (.own a)/\fs.length<=1000/\dx≠a/\h.get? a=some (PySem.W.instObj C dx)/\
   ∃mA,h.Ns1 dx mA/\(∀f,V4 (fs.lookup f) (mA f))/\PySem.Within mA (fs.map (·.1))
 |.own _=>∃o,h.get? a=some o
 |.xd fs=>∃mA,h.Ns1 a mA/\∀f,V4 (fs.lookup f) (mA f)
 |.Z1 lo hi=>∃t u v,h.get? a=some { cls:=.type "range",data:=.fields #[.int lo t,.int hi u,.int 1 v]}
 |.Dy o u=>h.get? a=some o/\eE H h a u
 |.Dz ps=>h.get? a=some { cls:=.none,data:=.fields ps}
 |.met f x=>h.get? a=some (PySem.W.methodObj (.ref f) (.ref x))
 |.ext φ=>φ h/\(∃o,h.get? a=some o)/\∀h1 h2:Heap,φ h1->(∀o,h1.get? a=some o->h2.get? a=some o)->φ h2
def oq(H:Hp)(h:Heap):Prop:=∀a o,H a=some o->eE P w H h a o
end
section
variable{P:Program}{w:World}{H H':Hp}{h h':Heap}{a:Addr}{o:HO}
theorem eE.lt(x:eE P w H h a o):a<h.objs.size:=by
 cases o with
 |lst xs=>obtain⟨_,_,_,_,e⟩:=x;exact eD e
 |tup xs=>obtain⟨_,_,_,_,e,_⟩:=x;exact eD e
 |dK eT=>obtain⟨_,_,_,_,o,_,_,e,_⟩:=x;exact eD e
 |dT eT=>obtain⟨_,_,_,_,o,_,_,e,_⟩:=x;exact eD e
 |set S n=>obtain⟨o,_,_,_,e,_⟩:=x;exact eD e
 |ins C dx fs=>obtain⟨_,_,_,e,_⟩:=x;exact eD e
 |own y=>obtain⟨_,e⟩:=x;exact eD e
 |xd fs=>obtain⟨_,⟨_,_,_,e,_⟩,_⟩:=x;exact eD e
 |Z1 lo hi=>obtain⟨_,_,_,e⟩:=x;exact eD e
 |Dy ob u=>obtain⟨e,_⟩:=x;exact eD e
 |Dz ps=>exact eD (show h.get? a=some _ from x)
 |met f y=>exact eD (show h.get? a=some _ from x)
 |ext φ=>obtain⟨_,⟨_,e⟩,_⟩:=x;exact eD e
theorem Paired.P9{α β:Type}{F G:α->β->Prop}:∀{l₁:List α}{l₂:List β},Paired F l₁ l₂->(∀a b,F a b->G a b)->Paired G l₁ l₂
 |_,_,.nil,_=>.nil
 |_,_,.cons r t,f=>.cons (f _ _ r) (Paired.P9 t f)
theorem eE.stay(x:eE P w H h a o)(k:∀b u,(b=a\/H b=some (.own a))->h.get? b=some u->h'.get? b=some u)
  (ho:∀b,H b=some (.own a)->H' b=some (.own a)) (ht:∀b xs,H b=some (.tup xs)->H' b=some (.tup xs)):eE P w H' h' a o:=by
 induction o with
 |lst xs=>obtain⟨z,aA,n,r,e⟩:=x;exact⟨z,aA,n,r,k _ _ (.inl rfl) e⟩
 |tup xs=>obtain⟨z,aA,r,ob,e,c⟩:=x;exact⟨z,aA,r,ob,k _ _ (.inl rfl) e,c⟩
 |dK eT=>obtain⟨z,y,vs,r,ob,es,ep,e,c⟩:=x;exact⟨z,y,vs,r,ob,es,ep,k _ _ (.inl rfl) e,c⟩
 |dT eT=>obtain⟨z,y,xs,r,ob,es,ep,e,c⟩:=x;exact⟨z,y,xs,Paired.P9 r λp q z=>⟨z.1,ht _ _ z.2.1,z.2.2⟩,ob,es,ep,k _ _ (.inl rfl) e,c⟩
 |set S n=>obtain⟨ob,es,ep,t,e,c⟩:=x;exact⟨ob,es,ep,t,k _ _ (.inl rfl) e,c⟩
 |ins C dx fs=>obtain⟨d,z,ne,e,mA,⟨od,es,ep,e2,c⟩,r⟩:=x;exact⟨ho _ d,z,ne,k _ _ (.inl rfl) e,mA,⟨od,es,ep,k _ _ (.inr d) e2,c⟩,r⟩
 |own y=>obtain⟨ob,e⟩:=x;exact⟨ob,k _ _ (.inl rfl) e⟩
 |xd fs=>obtain⟨mA,⟨od,es,ep,e,c⟩,r⟩:=x;exact⟨mA,⟨od,es,ep,k _ _ (.inl rfl) e,c⟩,r⟩
 |Z1 lo hi=>obtain⟨t,u,v,e⟩:=x;exact⟨t,u,v,k _ _ (.inl rfl) e⟩
 |Dy ob u ih=>obtain⟨e,q⟩:=x;exact⟨k _ _ (.inl rfl) e,ih q⟩
 |Dz ps=>have e:h.get? a=some { cls:=.none,data:=.fields ps}:=x;show h'.get? a=some { cls:=.none,data:=.fields ps};exact k a _ (.inl rfl) e
 |met f y=>have e:h.get? a=some (PySem.W.methodObj (.ref f) (.ref y)):=x;show h'.get? a=some (PySem.W.methodObj (.ref f) (.ref y));exact k a _ (.inl rfl) e
 |ext φ=>obtain⟨p,⟨o,e⟩,st⟩:=x;exact⟨st _ _ p λo q=>k _ _ (.inl rfl) q,⟨o,k _ _ (.inl rfl) e⟩,st⟩
theorem oq.lt(x:oq P w H h)(e:H a=some o):a<h.objs.size:=(x a o e).lt
theorem oq.fresh(x:oq P w H h)(e:h.objs.size<=a):H a=none:=by
 cases q:H a with
 |none=>rfl
 |some u=>exact absurd (fI (x.lt q) e) (mB _)
theorem oq.kept(x:oq P w H h)(k:∀b u,h.get? b=some u->h'.get? b=some u):oq P w H h':=λa o e=>
 (x a o e).stay (λb u _ q=>k b u q) (λ_ q=>q) λ_ _ q=>q
theorem oq.laid(x:oq P w H h)(k:∀b u,h.get? b=some u->h'.get? b=some u)(hp:h.objs.size<=a)(new:eE P w (upd H a o) h' a o):oq P w (upd H a o) h':=λb u e=>by
 have hn:=x.fresh hp;by_cases hb:b=a
 . subst hb;rw[aI]at e;cases e;exact new
 . rw[aF hb]at e;exact (x b u e).stay (λc v _ q=>k c v q) (λc q=>by rw[aF (aO q hn)];exact q) λc xs q=>by rw[aF (aO q hn)];exact q
end
def Rd(H:Hp)(a:Addr)(u:HO):Prop:=H a=some u\/∃o,H a=some (.Dy o u)
theorem Rd.ok{P:Program}{w:World}{H:Hp}{h:Heap}{a:Addr}{u:HO}(r:Rd H a u)(x:oq P w H h):eE P w H h a u:=by
 rcases r with r |⟨o,r⟩
 . exact x a u r
 . obtain⟨_,q⟩:=x a _ r;exact q
noncomputable def Zc:Option HO->Prop
 |some (.lst _)=>True
 |some (.dK _)=>True
 |some (.dT _)=>True
 |some (.set _ _)=>True
 |some (.ins _ _ _)=>True
 |some (.ext _)=>True
 |_=>False
section
variable{P:Program}{w:World}{H:Hp}{h h':Heap}{x e:Addr}{o':HO}
theorem oq.write(ok:oq P w H h)(mu:Zc (H x))(he:e=x\/H e=some (.own x))(k:∀b u,b≠e->h.get? b=some u->h'.get? b=some u)(Vi:∃u,h'.get? e=some u)
  (new:eE P w (upd H x o') h' x o'):oq P w (upd H x o') h':=λb u q=>by
 have V5:∀c y,H c=some (.own y)->c≠x:=λc y r z=>by subst z;rw[r]at mu;exact mu
 have Z2:∀c xs,H c=some (.tup xs)->c≠x:=λc xs r z=>by subst z;rw[r]at mu;exact mu
 by_cases hb:b=x
 . subst hb;rw[aI]at q;cases q;exact new
 .
  rw[aF hb]at q;by_cases Qa:b=e
  .
   have q':H b=some (.own x):=by
    rcases he with z |z
    . exact absurd (Qa.trans z) hb
    . rw[Qa];exact z
   rw[q]at q';cases q';obtain⟨v,hv⟩:=Vi;exact⟨v,by rw[Qa];exact hv⟩
  .
   refine (ok b u q).stay (λc v hc r=>k c v ?_ r) (λc r=>by rw[aF (V5 c b r)];exact r) λc xs r=>by rw[aF (Z2 c xs r)];exact r
   rcases hc with rfl |hc
   . exact Qa
   .
    rintro rfl;rcases he with z |z
    . exact V5 c b hc z
    . rw[hc]at z;cases z;exact hb rfl
end
structure Un(fs ex:List Addr)(H H':Hp)(h h':Heap):Prop where
 keep:∀b o,h.get? b=some o->H b=none->b∉fs->b∉ex->h'.get? b=some o
 slot:∀b o,h.get? b=some o->H b=none->b∈fs->b∉ex->∃sl,h'.get? b=some { o with slots:=sl}
 free:∀b o,h.get? b=some o->H b=none->b∉ex->H' b=none
 there:∀b o,h.get? b=some o->b∉ex->∃o',h'.get? b=some o'
 tups:∀b xs,H b=some (.tup xs)->H' b=some (.tup xs)
 sN:∀b o u,H b=some (.Dy o u)->H' b=some (.Dy o u)
 sO:∀b ps,H b=some (.Dz ps)->∃more,H' b=some (.Dz (ps++more))
section
variable{fs fs' ex ex':List Addr}{H H1 H2:Hp}{h h1 h2 h':Heap}{a x e:Addr}{o:HO}
theorem Un.any(u:Un fs ex H H1 h h1){b:Addr}{ob:Obj}(q:h.get? b=some ob)(n:H b=none)(hx:b∉ex):∃sl,h1.get? b=some { ob with slots:=sl}:=by
 by_cases hb:b∈fs
 . exact u.slot b ob q n hb hx
 . exact⟨ob.slots,u.keep b ob q n hb hx⟩
theorem Un.kept(k:∀b u,h.get? b=some u->h'.get? b=some u):Un fs ex H H h h':=
 ⟨λb ob q _ _ _=>k b ob q,λb ob q _ _ _=>⟨ob.slots,k b ob q⟩,λ_ _ _ n _=>n,λb ob q _=>⟨ob,k b ob q⟩,λ_ _ q=>q,λ_ _ _ q=>q,λ_ ps q=>⟨#[],by rw[q];simp⟩⟩
theorem Un.refl:Un fs ex H H h h:=Un.kept λ_ _ q=>q
theorem Un.laid(k:∀b u,h.get? b=some u->h'.get? b=some u)(hp:h.objs.size<=a)(hn:H a=none):Un fs ex H (upd H a o) h h' where
 keep:=λb u q _ _ _=>k b u q
 slot:=λb u q _ _ _=>⟨u.slots,k b u q⟩
 free:=λb u q n _=>by rw[aF (hZ (fI (eD q) hp))];exact n
 there:=λb u q _=>⟨u,k b u q⟩
 tups:=λb xs q=>by rw[aF (aO q hn)];exact q
 sN:=λb u xs q=>by rw[aF (aO q hn)];exact q
 sO:=λb ps q=>⟨#[],by rw[aF (aO q hn),q];simp⟩
theorem Un.write(mu:Zc (H x))(he:e=x\/H e=some (.own x))(k:∀b u,b≠e->h.get? b=some u->h'.get? b=some u)(Vi:∃u,h'.get? e=some u):Un fs ex H (upd H x o) h h':=by
 have hx:∀b,H b=none->b≠x:=λb n z=>by subst z;rw[n]at mu;exact mu
 have hb:∀b,H b=none->b≠e:=λb n z=>by
  subst z;rcases he with r |r
  . exact hx b n r
  . rw[n]at r;cases r
 have hm:∀b u,H b=some u->¬ Zc (some u)->b≠x:=λb u q nm z=>by subst z;rw[q]at mu;exact nm mu
 refine⟨λb u q n _ _=>k b u (hb b n) q,λb u q n _ _=>⟨u.slots,k b u (hb b n) q⟩,λb u q n _=>by rw[aF (hx b n)];exact n,λb u q _=>?_,
  λb xs q=>by rw[aF (hm b _ q λz=>z)];exact q,λb u xs q=>by rw[aF (hm b _ q λz=>z)];exact q,λb ps q=>⟨#[],by rw[aF (hm b _ q λz=>z),q];simp⟩⟩
 by_cases Qa:b=e
 . subst Qa;exact Vi
 . exact⟨u,k b u Qa q⟩
end
noncomputable def Zd(h:Heap)(H:Hp):List Addr:=(List.range h.objs.size).filter λa=>(H a).isSome
def sP(h:Heap)(H:Hp):Heap:=PySem.W.hideAll h (Zd h H)
theorem Ar(h:Heap)(H:Hp):(sP h H).objs.size=h.objs.size:=PySem.W.hideAll_size _ _
theorem Ed(e:h.get? b=some o)(n:H b=none):(sP h H).get? b=some o:=
 PySem.W.hideAll_get _ e λhm=>by
  have q:(H b).isSome=true:=(i7.mp hm).2;rw[n]at q;simp at q
theorem JB(e:(sP h H).get? b=some o):h.get? b=some o/\H b=none:=by
 have e':h.get? b=some o:=PySem.W.of_hideAll (Zd h H) e;refine⟨e',?_⟩;cases q:H b with
 |none=>rfl
 |some x=>
  have hm:b∈Zd h H:=i7.mpr ⟨lS.mpr (eD e'),by simp[q]⟩
  have z:(sP h H).get? b=none:=PySem.W.hideAll_none (Zd h H) hm;rw[z]at e;cases e
noncomputable def JC(g h:Heap)(L:Addr):List (Addr×Obj):=(List.range h.objs.size).filterMap λa=>if a=L\/(g.get? a).isSome=true then none else (h.get? a).map λo=>(a,o)
def rest(g h:Heap)(L d:Addr):List (Addr×Obj):=(JC g h L).filter λp=>decide (p.1≠d)
structure Mod(K:Frag)(mg:Str->Option Value)(base:Heap):Prop where
 Z3:K.In base
 glob:base.Ns mainGlobals mg
 blt:∃mb,base.Ns builtinsNs mb/\∀x:Str,x≠ "__name__" ->mb x=bootBuiltins x
 nolimit:base.NoLimit
structure Cx where
 prog:Program
 w:World
 K:Frag
 mg:Str->Option Value
 base:Heap
 A:Around
 N:List Str
 s₀:Shared
 H₀:Hp
 env:Env
 outer:List Env
 stack:List Env
 ex:List Addr
 fn:Str->Bool
 calm:Bool
 pn:List (Addr×Obj)
 xe:Value->Shared->Prop
def frs(l:List Env):List Addr:=l.filterMap (·.frame)
abbrev Cx.fs(X:Cx):List Addr:=frs X.outer
def mQ(sc:Scope)(x:Str):Prop:=sc.names.lookup x=some .local\/sc.names.lookup x=some .cell\/sc.names.lookup x=some .free
def Loc(sc:Scope)(x:Str):Prop:=sc.names.lookup x=some .local\/sc.names.lookup x=some .cell
def Look(env:Env)(h:Heap)(m:Str->Option Value)(x:Str)(u:Value):Prop:=
 (env.kindOf x=some .local/\m x=some u)\/((env.kindOf x=some .cell\/env.kindOf x=some .free)/\∃c,env.cells.lookup x=some c/\h.IsCell c (some u))
structure Cx.Ok(X:Cx):Prop where
 mod:Mod X.K X.mg X.base
 kind:X.env.scope.kind=.function
 glob:X.env.globals=mainGlobals
 blt:X.env.builtins=builtinsNs
 above:X.s₀⁻¹<=X.env.locals
 inj:∀x y c,X.env.cells.lookup x=some c->X.env.cells.lookup y=some c->x=y
 has:∀x,(X.env.kindOf x=some .cell\/X.env.kindOf x=some .free)->∃c,X.env.cells.lookup x=some c
 Vj:∀x c,X.fn x=true->X.env.cells.lookup x=some c->X.s₀⁻¹<=c
 hd:X.calm=true->X.A.handled=none
 frames:X.A.frames=some X.stack
 stk:X.stack=X.outer\/(X.stack=X.env::X.outer/\X.env.frame=some X.env.locals)
 V6:∀b∈X.ex,b≠X.env.locals/\∀x c,X.env.cells.lookup x=some c->c≠b
 bs:∀b o,X.base.get? b=some o->X.s₀.heap.get? b=some o/\X.H₀ b=none
 JD:X.base.objs.size<=X.s₀⁻¹
 Au:∀b o,X.base.get? b=some o->b∉X.ex
 Av:∀b∈X.ex,b∉X.fs
 nI:X.s₀.heap.FunFrames X.base X.outer
 Qc:∀b∈X.fs,X.H₀ b=none
structure Inv(X:Cx)(ah:List (Addr×Obj))(σ:List (Option V))(H:Hp)(s:Shared):Prop where
 ok:X.Ok
 os:s.os=X.s₀.os
 bare:AllBare s.gens
 base:Un X.fs X.ex X.H₀ H X.s₀.heap s.heap
 loc:∃m,s.heap.Ns X.env.locals m/\∀(i:Nat) (x:Str) (v:V),X.N[i]?=some x->σ[i]?=some (some v)->mQ X.env.scope x->∃u,RelV v u/\Look X.env s.heap m x u
 cell:∀x c,X.env.cells.lookup x=some c->∃v,s.heap.IsCell c v
 free:H X.env.locals=none
 jx:∀x c,X.env.cells.lookup x=some c->H c=none
 pin:∀p∈X.pn++ah,s.heap.get? p.1=some p.2/\H p.1=none/\p.1≠X.env.locals/\p.1∉X.fs/\∀v,p.2.data≠.cell v
 hok:oq X.prog X.w H s.heap
 len:σ.length=X.N.length
section
variable{X:Cx}{ah:List (Addr×Obj)}{σ:List (Option V)}{H H':Hp}{s:Shared}{h':Heap}
theorem Cx.Ok.Z4(ok:X.Ok)(e:X.base.get? b=some o):b∉X.fs:=λhb=>by
 have:=(ok.nI.mem hb).1;rw[e]at this;cases this
theorem Inv.bs(I:Inv X ah σ H s):∀b o,X.base.get? b=some o->s.heap.get? b=some o/\H b=none:=λb o e=>
 ⟨I.base.keep b o (I.ok.bs b o e).1 (I.ok.bs b o e).2 (I.ok.Z4 e) (I.ok.Au b o e),I.base.free b o (I.ok.bs b o e).1 (I.ok.bs b o e).2 (I.ok.Au b o e)⟩
theorem Inv.bk(I:Inv X ah σ H s):∀b o,X.base.get? b=some o->s.heap.get? b=some o:=λb o e=>(I.bs b o e).1
theorem Inv.mod(I:Inv X ah σ H s):Mod X.K X.mg X.base:=I.ok.mod
theorem Inv.uS(I:Inv X ah σ H s):X.K.In s.heap:=I.ok.mod.Z3.keeps I.bk
theorem Inv.lt(I:Inv X ah σ H s):X.env.locals<s⁻¹:=let ⟨_,hn,_⟩:=I.loc;hn.lt
theorem Inv.sz(I:Inv X ah σ H s):X.s₀⁻¹<=s⁻¹:=hV I.ok.above (Nat.le_of_lt I.lt)
theorem Inv.Z5(I:Inv X ah σ H s)(h:s⁻¹<=a):a∉X.fs:=λhb=>by
 obtain⟨_,o,ho,_⟩:=I.ok.nI.mem hb;exact absurd (fI (eD ho) (hV I.sz h)) (mB _)
theorem Inv.Qd(I:Inv X ah σ H s):∀x c,X.env.cells.lookup x=some c->c≠X.env.locals:=λx c e z=>by
 obtain⟨v,o,ho,hd⟩:=I.cell x c e;obtain⟨m,⟨o',es,ep,ho',hd',_⟩,_⟩:=I.loc;rw[z,ho']at ho;cases ho;rw[hd']at hd;cases hd
theorem Inv.nI(I:Inv X ah σ H s):s.heap.FunFrames X.base X.outer:=by
 have all:∀(l:List Env),(∀b∈frs l,b∈X.fs)->X.s₀.heap.FunFrames X.base l->s.heap.FunFrames X.base l:=by
  intro l
  induction l with
  |nil=>intro _ _;trivial
  |cons env r ih=>
   intro hs hl;obtain⟨hk,⟨L,o,hf,hn,ho,hd⟩,hr⟩:=hl;have hL:L∈X.fs:=hs L (by unfold frs;rw[v6,hf];exact bP)
   obtain⟨sl,e⟩:=I.base.slot L o ho (I.ok.Qc L hL) hL λz=>I.ok.Av L z hL
   exact⟨hk,⟨L,_,hf,hn,e,hd⟩,ih (λb hb=>hs b (by unfold frs;rw[v6,hf];exact aS _ hb)) hr⟩
 exact all X.outer (λ_ hb=>hb) I.ok.nI
theorem Inv.stack(I:Inv X ah σ H s):s.heap.FunFrames X.base X.stack:=by
 rcases I.ok.stk with e |⟨e,hf⟩
 . rw[e];exact I.nI
 .
  rw[e];obtain⟨m,hn,_⟩:=I.loc;refine .cons (by rw[I.ok.kind];decide) hf hn ?_ I.nI
  exact Heap.get?_none_of_le (hV I.ok.JD I.ok.above)
theorem Inv.xE(I:Inv X ah σ H s):∀b∈frs X.stack,b∈X.env.locals::X.fs:=λb hb=>by
 rcases I.ok.stk with e |⟨e,hf⟩
 . rw[e]at hb;exact aS _ hb
 . rw[e]at hb;unfold frs at hb;rw[v6,hf]at hb;exact hb
theorem Inv.zb(I:Inv X ah σ H s):∀b∈frs X.stack,H b=none:=λb hb=>by
 rcases dS.mp (I.xE b hb)with e |hb
 . rw[e];exact I.free
 . obtain⟨_,o,ho,_⟩:=I.ok.nI.mem hb;exact I.base.free b o ho (I.ok.Qc b hb) λz=>I.ok.Av b z hb
theorem Inv.step{g':Array GenState}{t':Nat}{d':Drawn}{ch:List Addr}(I:Inv X ah σ H s)
  (hch:∀b∈ch,(b∈X.ex\/X.s₀⁻¹<=b)/\b≠X.env.locals/\(∀x c,X.env.cells.lookup x=some c->c≠b)/\∀p∈X.pn++ah,p.1≠b)
  (keep:∀b o,b≠X.env.locals->b∉X.fs->b∉ch->s.heap.get? b=some o->H b=none->h'.get? b=some o)
  (slot:∀b o,b≠X.env.locals->b∈X.fs->b∉ch->s.heap.get? b=some o->H b=none->∃sl,h'.get? b=some { o with slots:=sl}) (free:∀b o,b∉ch->s.heap.get? b=some o->H b=none->H' b=none)
  (there:∀b o,b∉ch->s.heap.get? b=some o->∃o',h'.get? b=some o')
  (tups:∀b xs,H b=some (.tup xs)->H' b=some (.tup xs)) (sN:∀b o u,H b=some (.Dy o u)->H' b=some (.Dy o u)) (sO:∀b ps,H b=some (.Dz ps)->∃more,H' b=some (.Dz (ps++more)))
  (ns:∀m,s.heap.Ns X.env.locals m->h'.Ns X.env.locals m) (hok:oq X.prog X.w H' h') (hg:AllBare g') :
  Inv X ah σ H' { s with heap:=h',gens:=g',drawn:=d',toks:=t'}:=by
 have neL:∀b o,X.s₀.heap.get? b=some o->b≠X.env.locals:=λb o e=>hZ (fI (eD e) I.ok.above)
 have Ze:∀b o,X.s₀.heap.get? b=some o->b∉X.ex->b∉ch:=λb o e hx hb=>by
  rcases (hch b hb).1 with z |z
  . exact hx z
  . exact absurd (fI (eD e) z) (mB _)
 have cellK:∀x c,X.env.cells.lookup x=some c->∀v,s.heap.IsCell c v->h'.IsCell c v:=λx c e v ⟨o,ho,hd⟩=>by
  have V7:c∉ch:=λz=>(hch c z).2.2.1 x c e rfl
  by_cases hc:c∈X.fs
  . obtain⟨sl,q⟩:=slot c o (I.Qd x c e) hc V7 ho (I.jx x c e);exact⟨_,q,hd⟩
  . exact⟨o,keep c o (I.Qd x c e) hc V7 ho (I.jx x c e),hd⟩
 refine⟨I.ok,I.os,hg,⟨λb o e n hb hx=>?_,λb o e n hb hx=>?_,λb o e n hx=>?_,λb o e hx=>?_,λb xs e=>tups b xs (I.base.tups b xs e),λb o xs e=>sN b o xs (I.base.sN b o xs e),λb ps e=>?_⟩,?_,λx c e=>?_,?_,λx c e=>?_,λp hp=>?_,hok,I.len⟩
 . exact keep b o (neL b o e) hb (Ze b o e hx) (I.base.keep b o e n hb hx) (I.base.free b o e n hx)
 . obtain⟨sl,e1⟩:=I.base.slot b o e n hb hx;obtain⟨sl',e2⟩:=slot b _ (neL b o e) hb (Ze b o e hx) e1 (I.base.free b o e n hx);exact⟨sl',e2⟩
 . obtain⟨o',e1⟩:=I.base.there b o e hx;exact free b o' (Ze b o e hx) e1 (I.base.free b o e n hx)
 . obtain⟨o',e1⟩:=I.base.there b o e hx;exact there b o' (Ze b o e hx) e1
 . obtain⟨m1,e1⟩:=I.base.sO b ps e;obtain⟨m2,e2⟩:=sO b _ e1;exact⟨m1++m2,by rw[e2,Array.append_assoc]⟩
 .
  obtain⟨m,hn,hl⟩:=I.loc;refine⟨m,ns m hn,λi x v e1 e2 e3=>?_⟩
  obtain⟨u,r,l⟩:=hl i x v e1 e2 e3;refine⟨u,r,?_⟩;rcases l with l |⟨k,c,e,z⟩
  . exact .inl l
  . exact .inr ⟨k,c,e,cellK x c e _ z⟩
 . obtain⟨v,z⟩:=I.cell x c e;exact⟨v,cellK x c e v z⟩
 . obtain⟨m,⟨o,_,_,ho,_⟩,_⟩:=I.loc;exact free _ o (λz=>(hch _ z).2.1 rfl) ho I.free
 . obtain⟨v,o,ho,hd⟩:=I.cell x c e;exact free c o (λz=>(hch c z).2.2.1 x c e rfl) ho (I.jx x c e)
 .
  obtain⟨e,n,ne,nf,d⟩:=I.pin p hp;have V7:p.1∉ch:=λz=>(hch p.1 z).2.2.2 p hp rfl
  exact⟨keep p.1 p.2 ne nf V7 e n,free p.1 p.2 V7 e n,ne,nf,d⟩
theorem Inv.un{t':Nat}(I:Inv X ah σ H s)(u:Un X.fs [] H H' s.heap h')(hok:oq X.prog X.w H' h'):Inv X ah σ H' { s with heap:=h',toks:=t'}:=by
 obtain⟨m,⟨o,es,ep,ho,r⟩,_⟩:=id I.loc;obtain⟨sl,hL⟩:=u.any ho I.free ⋯;exact I.step (g':=s.gens) (d':=s.drawn) (ch:=[]) (λ_ z=>nomatch z) (λb o _ hb _ e n=>u.keep b o e n hb ⋯) (λb o _ hb _ e n=>u.slot b o e n hb ⋯) (λb o _ e n=>u.free b o e n ⋯) (λb o _ e=>u.there b o e ⋯) u.tups u.sN u.sO (λm' hm=>by
  obtain⟨o',es',JF,ho',r'⟩:=hm;rw[ho]at ho';cases ho';exact⟨_,es',JF,hL,r'⟩) hok I.bare
theorem Inv.call{g':Array GenState}{t':Nat}{d':Drawn}{ch:List Addr}(I:Inv X ah σ H s)(u:Un (frs X.stack) ch H H' s.heap h')(hok:oq X.prog X.w H' h')(hg:AllBare g')
  (hch:∀b∈ch,(b∈X.ex\/X.s₀⁻¹<=b)/\b≠X.env.locals/\(∀x c,X.env.cells.lookup x=some c->c≠b)/\∀p∈X.pn++ah,p.1≠b) :
  Inv X ah σ H' { s with heap:=h',gens:=g',drawn:=d',toks:=t'}:=by
 obtain⟨m,⟨o,es,ep,ho,r⟩,_⟩:=id I.loc;obtain⟨sl,hL⟩:=u.any ho I.free λz=>(hch _ z).2.1 rfl
 exact I.step (ch:=ch) hch (λb o hL hb hc e n=>u.keep b o e n (λz=>(dS.mp (I.xE b z)).elim hL hb) hc) (λb o _ _ hc e n=>u.any e n hc) (λb o hc e n=>u.free b o e n hc) (λb o hc e=>u.there b o e hc) u.tups u.sN u.sO (λm' hm=>by
  obtain⟨o',es',JF,ho',r'⟩:=hm;rw[ho]at ho';cases ho';exact⟨_,es',JF,hL,r'⟩) hok hg
theorem Inv.turned{t':Nat}{it:Addr}(I:Inv X ah σ H s)(k:∀b o,b≠it->s.heap.get? b=some o->h'.get? b=some o)(hn:H it=none)(hL:it≠X.env.locals)
  (h1:it∈X.ex\/X.s₀⁻¹<=it) (h2:∀x c,X.env.cells.lookup x=some c->c≠it) (h3:∀p∈X.pn++ah,p.1≠it):Inv X ah σ H { s with heap:=h',toks:=t'}:=by
 have nit:∀b u,H b=some u->b≠it:=λb u e z=>by rw[z,hn]at e;cases e
 refine I.step (g':=s.gens) (d':=s.drawn) (ch:=[it]) (λb hb=>?_) (λb o _ _ hc e _=>k b o (λz=>hc (by simp[z])) e) (λb o _ _ hc e _=>⟨o.slots,k b o (λz=>hc (by simp[z])) e⟩) (λ_ _ _ _ n=>n)
  (λb o hc e=>⟨o,k b o (λz=>hc (by simp[z])) e⟩) (λ_ _ e=>e) (λ_ _ _ e=>e) (λb ps e=>⟨#[],by rw[e];simp⟩) (λm hm=>?_) (λb u e=>?_) I.bare
 .
  have e:b=it:=by simpa using hb
  subst e;exact⟨h1,hL,h2,h3⟩
 . obtain⟨o,es,ep,ho,r⟩:=hm;exact⟨o,es,ep,k _ o (tP hL) ho,r⟩
 .
  refine (I.hok b u e).stay (λc v hc q=>k c v ?_ q) (λ_ q=>q) λ_ _ q=>q
  rcases hc with z |z
  . rw[z];exact nit b u e
  . exact nit c _ z
theorem Inv.tok(I:Inv X ah σ H s)(t:Nat):Inv X ah σ H { s with toks:=t}:=I.un (h':=s.heap) (t':=t) Un.refl I.hok
theorem Inv.kept{t':Nat}(I:Inv X ah σ H s)(k:∀b u,s.heap.get? b=some u->h'.get? b=some u):Inv X ah σ H { s with heap:=h',toks:=t'}:=I.un (Un.kept k) (I.hok.kept k)
theorem Inv.laid{a:Addr}{o:HO}{t':Nat}(I:Inv X ah σ H s)(k:∀b u,s.heap.get? b=some u->h'.get? b=some u)(hp:s⁻¹<=a)(new:eE X.prog X.w (upd H a o) h' a o) :
  Inv X ah σ (upd H a o) { s with heap:=h',toks:=t'}:=I.un (Un.laid k hp (I.hok.fresh hp)) (I.hok.laid k hp new)
theorem Inv.write(I:Inv X ah σ H s)(mu:Zc (H x))(he:e=x\/H e=some (.own x))(k:∀b u,b≠e->s.heap.get? b=some u->h'.get? b=some u)(Vi:∃u,h'.get? e=some u)
  (new:eE X.prog X.w (upd H x o) h' x o):Inv X ah σ (upd H x o) { s with heap:=h',toks:=t'}:=I.un (Un.write mu he k Vi) (I.hok.write mu he k Vi new)
theorem Inv.zc(I:Inv X ah σ H s)(h:∀p∈V8,s.heap.get? p.1=some p.2/\H p.1=none/\p.1≠X.env.locals/\p.1∉X.fs/\∀v,p.2.data≠.cell v):Inv X V8 σ H s:=
 ⟨I.ok,I.os,I.bare,I.base,I.loc,I.cell,I.free,I.jx,λp hp=>(AC.mp hp).elim (λz=>I.pin p (pE _ z)) (h p),I.hok,I.len⟩
theorem uT{N:List Str}(hN:N.Nodup){i j:Nat}{x:Str}(a:N[i]?=some x)(b:N[j]?=some x):i=j:=by obtain⟨h1,e1⟩:=b0.mp a;obtain⟨h2,e2⟩:=b0.mp b;exact (List.getElem_inj hN).mp (e1.trans e2.symm)
theorem lu{M:Model}{A:Around}{E:Value->Shared->Prop}{i:Nat}{x:Str}{v:V}{u:Value}{Q:Unit->Shared->Prop}(I:Inv X ah σ H s)(hN:X.N.Nodup)(hi:X.N[i]?=some x)(hx:Loc X.env.scope x)(r:RelV v u)
  (h:∀s',Inv X ah (σ.set i (some v)) H s'->(∃a,Heap.SameBut a s.heap s'.heap/\(a=X.env.locals\/X.env.cells.lookup x=some a))->Q () s') (hf:X.fn x=true\/X.env.scope.names.lookup x=some .local:=by first |exact .inl rfl |exact .inr rfl |assumption):wpAny M A (storeName X.env x u) Q E s:=by
 obtain⟨m,hn,hl⟩:=id I.loc;have hcls:(X.env.scope.kind==.class||(X.env.scope.kind==.module&&X.env.locals != X.env.globals))=false:=by rw[I.ok.kind];rfl
 have V9:i<σ.length:=by rw[I.len];exact (b0.mp hi).1
 have Qd:=I.Qd;have tracked:∀{a:Addr}{h':Heap},(∃o,s.heap.get? a=some o/\H a=none)->Heap.SameBut a s.heap h'->oq X.prog X.w H h':=λ{a h'} ha hs b ob e=>by
  obtain⟨_,_,hfree⟩:=ha;refine (I.hok b ob e).stay (λc w' hc q=>(hs.2 c ?_).trans q) (λ_ q=>q) λ_ _ q=>q
  rintro rfl;rcases hc with rfl |hc
  . rw[hfree]at e;cases e
  . rw[hfree]at hc;cases hc
 rcases hx with hk |hk
 .
  refine wpAny_storeName_local hk hn (λh' hn' hs=>?_) hcls
  obtain⟨oL,_,_,Zf,_⟩:=id hn;refine h _ ⟨I.ok,I.os,I.bare,⟨λb o e n hb hx=>?_,λb o e n hb hx=>?_,I.base.free,λb o e hx=>?_,I.base.tups,I.base.sN,I.base.sO⟩,⟨_,hn',λj y v' e1 e2 e3=>?_⟩,λy c e=>?_,I.free,I.jx,λp hp=>?_,tracked ⟨oL,Zf,I.free⟩ hs,by simpa using I.len⟩ ⟨_,hs,.inl rfl⟩
  . exact (hs.2 b (hZ (fI (eD e) I.ok.above))).trans (I.base.keep b o e n hb hx)
  . obtain⟨sl,e1⟩:=I.base.slot b o e n hb hx;exact⟨sl,(hs.2 b (hZ (fI (eD e) I.ok.above))).trans e1⟩
  . obtain⟨o',e1⟩:=I.base.there b o e hx;exact⟨o',(hs.2 b (hZ (fI (eD e) I.ok.above))).trans e1⟩
  .
   by_cases hj:j=i
   . subst hj;rw[hi]at e1;cases e1;rw[fR V9]at e2;cases e2;exact⟨u,r,.inl ⟨hk,by simp⟩⟩
   .
    rw[eR (tP hj)]at e2;obtain⟨u',r',q⟩:=hl j y v' e1 e2 e3;refine⟨u',r',?_⟩;rcases q with ⟨k,e⟩ |⟨k,c,e,z⟩
    .
     refine .inl ⟨k,?_⟩;have:y≠x:=λe=>hj (uT hN e1 (e▸hi))
     simp[this,e]
    . exact .inr ⟨k,c,e,z.sameBut hs (Qd y c e)⟩
  . obtain⟨w',z⟩:=I.cell y c e;exact⟨w',z.sameBut hs (Qd y c e)⟩
  . obtain⟨e,n,ne,nf,d⟩:=I.pin p hp;exact⟨(hs.2 p.1 ne).trans e,n,ne,nf,d⟩
 .
  have hfn:X.fn x=true:=by
   rcases hf with z |z
   . exact z
   . rw[z]at hk;cases hk
  obtain⟨c,hc⟩:=I.ok.has x (.inl hk);obtain⟨w',z⟩:=I.cell x c hc;refine wpAny_storeName_cell I.ok.kind hk hc z (λh' hc' hs=>?_)
  obtain⟨oc,hoc,Z6⟩:=id z;refine h { s with heap:=h'} ⟨I.ok,I.os,I.bare,⟨λb o e n hb hx=>?_,λb o e n hb hx=>?_,I.base.free,λb o e hx=>?_,I.base.tups,I.base.sN,I.base.sO⟩,⟨m,hn.sameBut hs (tP (Qd x c hc)),λj y v' e1 e2 e3=>?_⟩,λy c' e=>?_,I.free,I.jx,λp hp=>?_,tracked ⟨oc,hoc,I.jx x c hc⟩ hs,by simpa using I.len⟩ ⟨c,hs,.inr hc⟩
  . exact (hs.2 b (hZ (fI (eD e) (I.ok.Vj x c hfn hc)))).trans (I.base.keep b o e n hb hx)
  . obtain⟨sl,e1⟩:=I.base.slot b o e n hb hx;exact⟨sl,(hs.2 b (hZ (fI (eD e) (I.ok.Vj x c hfn hc)))).trans e1⟩
  . obtain⟨o',e1⟩:=I.base.there b o e hx;exact⟨o',(hs.2 b (hZ (fI (eD e) (I.ok.Vj x c hfn hc)))).trans e1⟩
  .
   by_cases hj:j=i
   . subst hj;rw[hi]at e1;cases e1;rw[fR V9]at e2;cases e2;exact⟨u,r,.inr ⟨.inl hk,c,hc,hc'⟩⟩
   .
    rw[eR (tP hj)]at e2;obtain⟨u',r',q⟩:=hl j y v' e1 e2 e3;refine⟨u',r',?_⟩;rcases q with q |⟨k,c',e,z'⟩
    . exact .inl q
    . refine .inr ⟨k,c',e,z'.sameBut hs ?_⟩;rintro rfl;exact hj (uT hN e1 (I.ok.inj _ _ _ e hc▸hi))
  .
   by_cases hcc:c'=c
   . subst hcc;exact⟨_,hc'⟩
   . obtain⟨w2,z2⟩:=I.cell y c' e;exact⟨w2,z2.sameBut hs hcc⟩
  . obtain⟨e,n,ne,nf,d⟩:=I.pin p hp;refine⟨(hs.2 p.1 ?_).trans e,n,ne,nf,d⟩;intro q;rw[q,hoc]at e;have q':oc=p.2:=nS e;exact d w' (by rw[<- q'];exact Z6)
theorem ou{M:Model}{A:Around}{E:Value->Shared->Prop}{i:Nat}{x:Str}{v:V}{u:Value}{Q:Unit->Shared->Prop}(I:Inv X ah σ H s)(hN:X.N.Nodup)(hi:X.N[i]?=some x)(hx:Loc X.env.scope x)(r:RelV v u)
  (h:∀s',Inv X ah (σ.set i (some v)) H s'->Q () s') (hf:X.fn x=true\/X.env.scope.names.lookup x=some .local:=by first |exact .inl rfl |exact .inr rfl |assumption):wpAny M A (storeName X.env x u) Q E s:=
 lu I hN hi hx r (λs' I' _=>h s' I') hf
theorem Inv.call'(I:Inv X ah σ H s)(ho:s'.os=s.os)(u:Un (frs X.stack) ch H H' s.heap s'.heap)(hok:oq X.prog X.w H' s'.heap)(hg:AllBare s'.gens)
  (hch:∀b∈ch,(b∈X.ex\/X.s₀⁻¹<=b)/\b≠X.env.locals/\(∀x c,X.env.cells.lookup x=some c->c≠b)/\∀p∈X.pn++ah,p.1≠b):Inv X ah σ H' s':=by
 obtain⟨h',g',d',t',o'⟩:=s';have e:o'=s.os:=ho;subst e;exact I.call (g':=g') (t':=t') (d':=d') u hok hg hch
end
abbrev XK:=Value->Option Addr->Hp->Prop
abbrev St:=List (Option V)
abbrev VK:=V->Hp->Prop
abbrev TE:=St->Hp->VK->Prop
abbrev TT:=St->Hp->(Bool->Hp->Prop)->Prop
abbrev TA:=St->Hp->(List V->Hp->Prop)->Prop
structure Ends where
 nx:St->Hp->Prop
 rt:VK
 bk:St->Hp->Prop:=λ_ _=>False
 ct:St->Hp->Prop:=λ_ _=>False
abbrev TS:=Ends->St->Hp->Prop
def EP(X:Cx)(ah:List (Addr×Obj))(σ:St)(Q:VK)(u:Value)(s':Shared):Prop:=∃v H',Inv X ah σ H' s'/\RelV v u/\Q v H'
def TP(X:Cx)(ah:List (Addr×Obj))(σ:St)(Q:Bool->Hp->Prop)(b:Bool)(s':Shared):Prop:=∃H',Inv X ah σ H' s'/\Q b H'
def AP(X:Cx)(ah:List (Addr×Obj))(σ:St)(Q:List V->Hp->Prop)(us:List Value)(s':Shared):Prop:=∃vs H',Inv X ah σ H' s'/\Vals vs us/\Q vs H'
def SP(X:Cx)(ah:List (Addr×Obj))(D:Ends)(f:Flow)(s':Shared):Prop:=
 match f with
 |.next=>∃σ' H',Inv X ah σ' H' s'/\D.nx σ' H'
 |.brk=>∃σ' H',Inv X ah σ' H' s'/\D.bk σ' H'
 |.cont=>∃σ' H',Inv X ah σ' H' s'/\D.ct σ' H'
 |.ret u=>∃v σ' H',Inv X ah σ' H' s'/\RelV v u/\D.rt v H'
def PE(X:Cx)(e:Expr)(t:TE):Prop:=
 ∀(ah:List (Addr×Obj)) (s:Shared) (σ:St) (H:Hp) (Q:VK),Inv X ah σ H s->t σ H Q->wpAny (model X.prog X.w) X.A (eval e X.env) (EP X ah σ Q) X.xe s
def PT(X:Cx)(e:Expr)(t:TT):Prop:=
 ∀(ah:List (Addr×Obj)) (s:Shared) (σ:St) (H:Hp) (Q:Bool->Hp->Prop),Inv X ah σ H s->t σ H Q->wpAny (model X.prog X.w) X.A (isTrue e X.env (eval e X.env)) (TP X ah σ Q) X.xe s
def PW(X:Cx)(e:Expr)(t:TT):Prop:=
 ∀(whole:Sem Value) (ah:List (Addr×Obj)) (s:Shared) (σ:St) (H:Hp) (Q:Bool->Hp->Prop),Inv X ah σ H s->t σ H Q->wpAny (model X.prog X.w) X.A (isTrue e X.env whole) (TP X ah σ Q) X.xe s
theorem PW.pt{X:Cx}{e:Expr}{t:TT}(h:PW X e t):PT X e t:=h _
def PA(X:Cx)(es:List Expr)(t:TA):Prop:=
 ∀(pos:Pos) (ah:List (Addr×Obj)) (s:Shared) (σ:St) (H:Hp) (Q:List V->Hp->Prop),Inv X ah σ H s->t σ H Q->wpAny (model X.prog X.w) X.A (spliced (backTo pos (starEach es X.env))) (AP X ah σ Q) X.xe s
def PS(X:Cx)(st:Stmt)(t:TS):Prop:=
 ∀(ah:List (Addr×Obj)) (s:Shared) (σ:St) (H:Hp) (D:Ends),Inv X ah σ H s->t D σ H->wpAny (model X.prog X.w) X.A (exec st X.env) (SP X ah D) X.xe s
def uL(X:Cx)(st:List Stmt)(t:TS):Prop:=
 ∀(ah:List (Addr×Obj)) (s:Shared) (σ:St) (H:Hp) (D:Ends),Inv X ah σ H s->t D σ H->wpAny (model X.prog X.w) X.A (execs st X.env) (SP X ah D) X.xe s
theorem cF{α:Type}{t:Sem α}{Q Q':α->Shared->Prop}{M:Model}{A:Around}{E:Value->Shared->Prop}{s:Shared}(h:wpAny M A t Q E s)(hQ:∀a s,Q a s->Q' a s):wpAny M A t Q' E s:=mE h hQ λ_ _ x=>x
section
variable{X:Cx}
theorem bin{a b:Expr}{ta tb:TE}(ha:PE X a ta)(hb:PE X b tb){ah:List (Addr×Obj)}{s:Shared}{σ:St}{H:Hp}{R:V->V->Hp->Prop}(I:Inv X ah σ H s)(h:ta σ H λx H1=>tb σ H1 λy H2=>R x y H2)
  {α:Type}{Q:α->Shared->Prop}{f:Value->Value->Sem α}
  (hf:∀v u s2 x y H2,Inv X ah σ H2 s2->RelV x v->RelV y u->R x y H2->wpAny (model X.prog X.w) X.A (f v u) Q X.xe s2) :
  wpAny (model X.prog X.w) X.A (eval a X.env) (λv s₁=>wpAny (model X.prog X.w) X.A (eval b X.env) (λu s₂=>wpAny (model X.prog X.w) X.A (f v u) Q X.xe s₂) X.xe s₁) X.xe s:=by
 refine cF (ha ah s σ H _ I h) λv s1 ⟨x,H1,I1,r1,q1⟩=>?_
 refine cF (hb ah s1 σ H1 _ I1 q1) λu s2 ⟨y,H2,I2,r2,q2⟩=>?_
 exact hf v u s2 x y H2 I2 r1 r2 q2
def Wa(i:Nat):TE:=λσ H Q=>∃v,σ[i]?=some (some v)/\Q v H
def tC(v:V):TE:=λ_ H Q=>Q v H
theorem dH(hN:X.N[i]?=some x)(hv:mQ X.env.scope x)(hd:(x==("__debug__":Str))=false:=by decide)(eS:(x==("__classdict__":Str))=false:=by decide):PE X (.Name x pos) (Wa i):=by
 intro ah s σ H Q I h;obtain⟨v,e,h⟩:=h;obtain⟨m,hn,hl⟩:=I.loc;obtain⟨u,r,l⟩:=hl i x v hN e hv;have fin:EP X ah σ Q u s:=⟨v,H,I,r,h⟩;rcases l with ⟨hk,hm⟩ |⟨hk,c,hc,hcell⟩
 . exact wpAny_Name (wpAny_loadName_local I.ok.kind hk hn hm fin) hd
 .
  rcases hk with hk |hk
  . exact wpAny_Name (wpAny_loadName_cell I.ok.kind hk hc hcell fin) hd
  . exact wpAny_Name (wpAny_loadName_free I.ok.kind hk hc hcell fin eS) hd
theorem Qe{i j pos}:PE X (.Constant (.int i) j pos) (tC (.int i)):=λ_ _ _ H _ I h=>wpAny_Constant_int ⟨.int i,H,I.tok _,⟨_,rfl⟩,h⟩
theorem Wc{b j pos}:PE X (.Constant (.bool b) j pos) (tC (.bl b)):=λ_ _ _ H _ I h=>Constant_bool ⟨.bl b,H,I,rfl,h⟩
theorem Qf{j pos}:PE X (.Constant .none j pos) (tC .non):=λ_ _ _ H _ I h=>Constant_none ⟨.non,H,I,rfl,h⟩
theorem Qg{x j pos}:PE X (.Constant (.str x) j pos) (tC (.str x)):=λ_ _ _ H _ I h=>Calls.Constant_str ⟨.str x,H,I.tok _,⟨_,rfl⟩,h⟩
def Gl(X:Cx)(x:Str):Prop:=X.env.kindOf x=some .globalImplicit
theorem zf{E:Value->Shared->Prop}{ah:List (Addr×Obj)}{s:Shared}{σ:St}{H:Hp}{x:Str}{u:Value}{pos:Pos}{Q:Value->Shared->Prop}(I:Inv X ah σ H s)(hg:Gl X x)(hm:X.mg x=some u)(h:Q u s)
  (hd:(x==("__debug__":Str))=false:=by decide):wpAny (model X.prog X.w) X.A (eval (.Name x pos) X.env) Q E s:=
 Calls.Name_function_global I.ok.kind hg (Calls.loadGlobal_global (by rw[I.ok.glob];exact I.mod.glob.keeps I.bk) hm h) hd
theorem fF{E:Value->Shared->Prop}{ah:List (Addr×Obj)}{s:Shared}{σ:St}{H:Hp}{x:Str}{u:Value}{pos:Pos}{Q:Value->Shared->Prop}(I:Inv X ah σ H s)(hg:Gl X x)(hm:X.mg x=none)(hv:bootBuiltins x=some u)(h:Q u s)
  (hn:x≠ "__name__" :=by decide) (hd:(x==("__debug__":Str))=false:=by decide):wpAny (model X.prog X.w) X.A (eval (.Name x pos) X.env) Q E s:=by
 obtain⟨mb,h1,h2⟩:=I.mod.blt;exact Calls.Name_function_global I.ok.kind hg (Calls.loadGlobal_builtin (by rw[I.ok.glob];exact I.mod.glob.keeps I.bk) hm (by rw[I.ok.blt];exact h1.keeps I.bk) ((h2 x hn).trans hv) h) hd
theorem JG(hg:Gl X x)(hm:X.mg x=some u)(r:RelV v u)(hd:(x==("__debug__":Str))=false:=by decide):PE X (.Name x pos) (tC v):=
 λ_ _ _ H _ I h=>zf I hg hm ⟨v,H,I,r,h⟩ hd
theorem JH(hg:Gl X x)(hm:X.mg x=none)(hv:bootBuiltins x=some u)(r:RelV v u)(hn:x≠ "__name__" :=by decide)(hd:(x==("__debug__":Str))=false:=by decide):PE X (.Name x pos) (tC v):=
 λ_ _ _ H _ I h=>fF I hg hm hv ⟨v,H,I,r,h⟩ hn hd
variable{a b:Expr}{ta tb:TE}{pos:Pos}
def tB(t:TE):TT:=λσ H Q=>t σ H λx H1=>∃c,x=.bl c/\Q c H1
variable{tA Zg:TT}{rest:List Expr}
noncomputable def Z7(t u:TT):TT:=λσ H Q=>t σ H λc H1=>if c=true then u σ H1 Q else Q false H1
noncomputable def tOr(t u:TT):TT:=λσ H Q=>t σ H λc H1=>if c=true then Q true H1 else u σ H1 Q
def Z8(t:TT):TT:=λσ H Q=>t σ H λc H1=>Q (!c) H1
theorem pw_and1(ha:PT X a tA):PW X (.BoolOp .And [a] pos) tA:=by
 intro wh ah s σ H Q I h;refine isTrue_and (cF (ha ah s σ H Q I h) λc s1 e=>?_)
 cases c with
 |true=>exact isTrue_and_nil e
 |false=>exact e
theorem pw_or1(ha:PT X a tA):PW X (.BoolOp .Or [a] pos) tA:=by
 intro wh ah s σ H Q I h;refine isTrue_or (cF (ha ah s σ H Q I h) λc s1 e=>?_)
 cases c with
 |false=>exact isTrue_or_nil e
 |true=>exact e
theorem pw_and(ha:PT X a tA)(hb:PW X (.BoolOp .And (b::rest) pos) Zg):PW X (.BoolOp .And (a::b::rest) pos) (Z7 tA Zg):=by
 intro wh ah s σ H Q I h;refine isTrue_and (cF (ha ah s σ H _ I h) λc s1 ⟨H1,I1,q1⟩=>?_)
 cases c with
 |true=>exact hb wh ah s1 σ H1 Q I1 q1
 |false=>exact⟨H1,I1,q1⟩
theorem pw_or(ha:PT X a tA)(hb:PW X (.BoolOp .Or (b::rest) pos) Zg):PW X (.BoolOp .Or (a::b::rest) pos) (tOr tA Zg):=by
 intro wh ah s σ H Q I h;refine isTrue_or (cF (ha ah s σ H _ I h) λc s1 ⟨H1,I1,q1⟩=>?_)
 cases c with
 |true=>exact⟨H1,I1,q1⟩
 |false=>exact hb wh ah s1 σ H1 Q I1 q1
theorem Qh(ha:PT X a tA):PT X (.UnaryOp .Not a pos) (Z8 tA):=by intro ah s σ H Q I h;exact isTrue_not (ha ah s σ H (λc H1=>Q (!c) H1) I h)
noncomputable def Wd(ta tb:TE):TE:=λσ H Q=>ta σ H λx H1=>∃c,x=.bl c/\if c=true then tb σ H1 Q else Q (.bl false) H1
noncomputable def Z9(ta tb:TE):TE:=λσ H Q=>ta σ H λx H1=>∃c,x=.bl c/\if c=true then Q (.bl true) H1 else tb σ H1 Q
def Wf(ta:TE):TE:=λσ H Q=>ta σ H λx H1=>∃c,x=.bl c/\Q (.bl (!c)) H1
theorem Qi{op}(h:PE X a t):PE X (.BoolOp op [a] pos) t:=λah s σ H Q I hw=>BoolOp_one (h ah s σ H Q I hw)
theorem Ef(ha:PE X a ta)(hb:PE X (.BoolOp .And (b::rest) pos) tb):PE X (.BoolOp .And (a::b::rest) pos) (Wd ta tb):=by
 intro ah s σ H Q I h;refine BoolOp_and (cF (ha ah s σ H _ I h) λv s1 ⟨x,H1,I1,r1,q1⟩=>?_)
 obtain⟨c,rfl,q1⟩:=q1;cases r1;refine mM ?_;cases c with
 |true=>exact hb ah s1 σ H1 Q I1 q1
 |false=>exact⟨.bl false,H1,I1,rfl,q1⟩
theorem Om(ha:PE X a ta)(hb:PE X (.BoolOp .Or (b::rest) pos) tb):PE X (.BoolOp .Or (a::b::rest) pos) (Z9 ta tb):=by
 intro ah s σ H Q I h;refine BoolOp_or (cF (ha ah s σ H _ I h) λv s1 ⟨x,H1,I1,r1,q1⟩=>?_)
 obtain⟨c,rfl,q1⟩:=q1;cases r1;refine mM ?_;cases c with
 |false=>exact hb ah s1 σ H1 Q I1 q1
 |true=>exact⟨.bl true,H1,I1,rfl,q1⟩
theorem Qj(ha:PE X a ta):PE X (.UnaryOp .Not a pos) (Wf ta):=by
 intro ah s σ H Q I h;refine UnaryOp_ (cF (ha ah s σ H _ I h) λv s1 ⟨x,H1,I1,r1,q1⟩=>?_)
 obtain⟨c,rfl,q1⟩:=q1;cases r1;exact not_of (mM ⟨.bl (!c),H1,I1,rfl,q1⟩)
noncomputable def tIf(t:TT)(ta tb:TE):TE:=λσ H Q=>t σ H λc H1=>if c=true then ta σ H1 Q else tb σ H1 Q
theorem uU{c:Expr}(hc:PT X c tA)(ha:PE X a ta)(hb:PE X b tb):PE X (.IfExp c a b pos) (tIf tA ta tb):=by
 intro ah s σ H Q I h;refine wpAny_IfExp (cF (hc ah s σ H _ I h) λd s1 ⟨H1,I1,q1⟩=>?_)
 cases d with
 |true=>exact ha ah s1 σ H1 Q I1 q1
 |false=>exact hb ah s1 σ H1 Q I1 q1
end
def bY(K:Frag)(H:Hp)(a:Addr)(xs:List V):Prop:=
 Rd H a (.lst xs)\/
  ∃(o:Obj) (aA:Array Value) (n:Nat),K.lookup a=some o/\o.cls=.type "list" /\o.dict=none/\o.data=.seq aA n/\aA.size<=sizeLine/\Vals xs aA.toList
def fy(K:Frag)(H:Hp)(a:Addr)(xs:List V):Prop:=
 Rd H a (.tup xs)\/
  ∃(o:Obj) (aA:Array Value) (n:Nat),K.lookup a=some o/\o.cls=.type "tuple" /\o.data=.seq aA n/\aA.size<=sizeLine/\Vals xs aA.toList
noncomputable def aac:Value->Option V
 |.none=>some .non
 |.bool b=>some (.bl b)
 |.int i _=>some (.int i)
 |.str x _=>some (.str x)
 |.bytes b _=>some (.Ol b)
 |.float b _=>some (.flt b)
 |.ref a=>some (.ref a)
 |.type n=>some (.ty n)
 |_=>none
theorem RelV.abs(r:RelV x u):aac u=some x:=by
 cases x with
 |non=>cases r;rfl
 |bl _=>cases r;rfl
 |int _=>obtain⟨t,rfl⟩:=r;rfl
 |str _=>obtain⟨t,rfl⟩:=r;rfl
 |Ol _=>obtain⟨t,rfl⟩:=r;rfl
 |flt _=>obtain⟨t,rfl⟩:=r;rfl
 |ref _=>cases r;rfl
 |ty _=>cases r;rfl
theorem RelV.inj{x y:V}{u:Value}(r:RelV x u)(q:RelV y u):x=y:=nS (r.abs.symm.trans q.abs)
theorem Vals.inj:∀{xs ys:List V}{us:List Value},Vals xs us->Vals ys us->xs=ys
 |_,_,_,.nil,.nil=>rfl
 |_,_,_,.cons r t,.cons r' t'=>by rw[r.inj r',Vals.inj t t']
section
variable{X:Cx}{ah:List (Addr×Obj)}{σ:St}{H:Hp}{s:Shared}{a:Addr}{xs ys:List V}
theorem bY.of{K:Frag}(h:H a=some (.lst xs)):bY K H a xs:=.inl (.inl h)
theorem Inv.list(I:Inv X ah σ H s)(h:bY X.K H a xs):∃aA:List Value,Vals xs aA/\PlainL s.heap a aA.toArray/\xs.length<=sizeLine:=by
 rcases h with h |⟨o,aA,n,hk,hc,hd,hs,hz,r⟩
 . obtain⟨z,aA,n,r,e⟩:=h.ok I.hok;exact⟨aA,r,⟨_,n,e,rfl,rfl,rfl⟩,z⟩
 .
  refine⟨aA.toList,r,⟨o,n,I.uS a o hk,hc,hd,by simpa using hs⟩,?_⟩
  have e:=r.length;simp only[nV]at e;lia
theorem Inv.tuple(I:Inv X ah σ H s)(h:fy X.K H a xs):∃aA:List Value,Vals xs aA/\IsTup s.heap a aA.toArray/\xs.length<=sizeLine:=by
 rcases h with h |⟨o,aA,n,hk,hc,hs,hz,r⟩
 . obtain⟨z,aA,r,p⟩:=h.ok I.hok;exact⟨aA,r,p.tup,z⟩
 .
  refine⟨aA.toList,r,⟨o,I.uS a o hk,hc,n,by simpa using hs⟩,?_⟩
  have e:=r.length;simp only[nV]at e;lia
theorem Inv.uV(I:Inv X ah σ H s)(h:bY X.K H a xs)(h':bY X.K H a ys):xs=ys:=by
 obtain⟨aA,r,⟨o,n,e,_,_,d⟩,_⟩:=I.list h;obtain⟨its',r',⟨o',n',e',_,_,d'⟩,_⟩:=I.list h';rw[e]at e';cases e';rw[d]at d';injection d' with d1 _;have:aA=its':=by simpa using congrArg Array.toList d1
 subst this;exact r.inj r'
theorem Inv.rm(I:Inv X ah σ H s)(h:fy X.K H a xs)(h':fy X.K H a ys):xs=ys:=by
 obtain⟨aA,r,⟨o,e,_,n,d⟩,_⟩:=I.tuple h;obtain⟨its',r',⟨o',e',_,n',d'⟩,_⟩:=I.tuple h';rw[e]at e';cases e';rw[d]at d';injection d' with d1 _;have:aA=its':=by simpa using congrArg Array.toList d1
 subst this;exact r.inj r'
end
abbrev Cx.wish(X:Cx)(E:Value->Shared->Prop):Cx:={ X with xe:=E}
abbrev Cx.Vk(X:Cx):Cx:=X.wish λ_ _=>False
theorem Cx.Ok.wish{X:Cx}(ok:X.Ok)(E:Value->Shared->Prop):(X.wish E).Ok:=
 ⟨ok.mod,ok.kind,ok.glob,ok.blt,ok.above,ok.inj,ok.has,ok.Vj,ok.hd,ok.frames,ok.stk,ok.V6,ok.bs,ok.JD,ok.Au,ok.Av,ok.nI,ok.Qc⟩
theorem Cx.Ok.ie{X:Cx}{E:Value->Shared->Prop}(ok:(X.wish E).Ok):X.Ok:=
 ⟨ok.mod,ok.kind,ok.glob,ok.blt,ok.above,ok.inj,ok.has,ok.Vj,ok.hd,ok.frames,ok.stk,ok.V6,ok.bs,ok.JD,ok.Au,ok.Av,ok.nI,ok.Qc⟩
section
variable{X:Cx}{ah:List (Addr×Obj)}{σ:St}{H:Hp}{s:Shared}{E:Value->Shared->Prop}
theorem Inv.wish(I:Inv X ah σ H s)(E:Value->Shared->Prop):Inv (X.wish E) ah σ H s:=⟨I.ok.wish E,I.os,I.bare,I.base,I.loc,I.cell,I.free,I.jx,I.pin,I.hok,I.len⟩
theorem Inv.ie(I:Inv (X.wish E) ah σ H s):Inv X ah σ H s:=⟨I.ok.ie,I.os,I.bare,I.base,I.loc,I.cell,I.free,I.jx,I.pin,I.hok,I.len⟩
theorem SP.ie(h:SP (X.wish E) ah D f s'):SP X ah D f s':=by
 cases f with
 |next=>obtain⟨σ',H',I,q⟩:=h;exact⟨σ',H',I.ie,q⟩
 |brk=>obtain⟨σ',H',I,q⟩:=h;exact⟨σ',H',I.ie,q⟩
 |cont=>obtain⟨σ',H',I,q⟩:=h;exact⟨σ',H',I.ie,q⟩
 |ret u=>obtain⟨v,σ',H',I,r,q⟩:=h;exact⟨v,σ',H',I.ie,r,q⟩
theorem uL.Vk{st:List Stmt}{t:TS}(h:uL X.Vk st t):uL X st t:=λah s σ H D I hw=>
 mE (h ah s σ H D (I.wish _) hw) (λ_ _ q=>q.ie) λ_ _ z=>False.elim z
end
section
variable{X:Cx}{st:Stmt}{rest:List Stmt}{t u:TS}{e:Expr}{te:TE}{pos:Pos}
def Wg:TS:=λD σ H=>D.nx σ H
def Wh(t u:TS):TS:=λD σ H=>t { D with nx:=u D} σ H
theorem JK:uL X [] Wg:=λ_ _ σ H _ I h=>wpAny_execs_nil ⟨σ,H,I,h⟩
theorem gn(h1:PS X st t)(h2:uL X rest u):uL X (st::rest) (Wh t u):=by
 intro ah s σ H D I h;refine wpAny_execs_cons (cF (h1 ah s σ H { D with nx:=u D} I h) λf s1 q=>?_)
 cases f with
 |next=>obtain⟨σ',H',I',q⟩:=q;exact h2 ah s1 σ' H' D I' q
 |ret v=>exact q
 |brk=>exact q
 |cont=>exact q
theorem JL(h1:PS X st t):uL X [st] t:=by
 intro ah s σ H D I h;refine wpAny_execs_cons (cF (h1 ah s σ H D I h) λf s1 q=>?_)
 cases f with
 |next=>exact wpAny_execs_nil q
 |ret v=>exact q
 |brk=>exact q
 |cont=>exact q
theorem Inv.quiet{ah:List (Addr×Obj)}{σ:St}{H:Hp}{s:Shared}(I:Inv X ah σ H s):interactive X.env=false:=by simp[interactive,I.ok.kind]
def Wi(te:TE):TS:=λD σ H=>te σ H λ_ H1=>D.nx σ H1
theorem zg(he:PE X e te)(hs:swapsWith e none pos.line X.env=pure false:=by rfl):PS X (.Expr e pos) (Wi te):=by intro ah s σ H D I h;exact wpAny_Expr_any (cF (he ah s σ H _ I h) λv s1 ⟨x,H1,I1,r1,q1⟩=>⟨σ,H1,I1,q1⟩) I.quiet hs
def aad(te:TE):TS:=λD σ H=>te σ H D.rt
theorem Eg(he:PE X e te):PS X (.Return (some e) pos) (aad te):=by intro ah s σ H D I h;exact wpAny_Return_some (cF (he ah s σ H _ I h) λv s1 ⟨x,H1,I1,r1,q1⟩=>⟨x,σ,H1,I1,r1,q1⟩)
noncomputable def aae(c:TT)(t u:TS):TS:=λD σ H=>c σ H λb H1=>if b=true then t D σ H1 else u D σ H1
theorem Oo{c:Expr}{a b:List Stmt}{tc:TT}(hc:PT X c tc)(ha:uL X a t)(hb:uL X b u):PS X (.If c a b pos) (aae tc t u):=by
 intro ah s σ H D I h;refine wpAny_If (cF (hc ah s σ H _ I h) λd s1 ⟨H1,I1,q1⟩=>?_)
 cases d with
 |true=>exact ha ah s1 σ H1 D I1 q1
 |false=>exact hb ah s1 σ H1 D I1 q1
def Qk:TS:=λ_ _ _=>False
theorem fz:uL X uP Qk:=λ_ _ _ _ _ _ h=>h.elim
end
abbrev TG:=V->St->Hp->(St->Hp->Prop)->Prop
abbrev Oq:=List V->St->Hp->(St->Hp->Prop)->Prop
def PG(X:Cx)(target:Expr)(t:TG):Prop:=
 ∀(ah:List (Addr×Obj)) (s:Shared) (σ:St) (H:Hp) (v:V) (u:Value) (Q:St->Hp->Prop),Inv X ah σ H s->RelV v u->t v σ H Q->
  wpAny (model X.prog X.w) X.A (assign target X.env u) (λ_ s'=>∃σ' H',Inv X ah σ' H' s'/\Q σ' H') X.xe s
def Vl(X:Cx)(ts:List Expr)(t:Oq):Prop:=
 ∀(ah:List (Addr×Obj)) (s:Shared) (σ:St) (H:Hp) (vs:List V) (us:List Value) (Q:St->Hp->Prop),Inv X ah σ H s->Vals vs us->t vs σ H Q->
  wpAny (model X.prog X.w) X.A (assignInOrder ((assignEach ts X.env).map (·.2)) us) (λ_ s'=>∃σ' H',Inv X ah σ' H' s'/\Q σ' H') X.xe s
abbrev Ql:=V->V->V->Hp->(Hp->Prop)->Prop
def Wj(X:Cx)(t:Ql):Prop:=
 ∀(ah:List (Addr×Obj)) (s:Shared) (σ:St) (H:Hp) (o i v:V) (ov iv u:Value) (Q:Hp->Prop),Inv X ah σ H s->RelV o ov->RelV i iv->RelV v u->t o i v H Q->
  wpAny (model X.prog X.w) X.A (setItem ov iv u) (λ_ s'=>∃H',Inv X ah σ H' s'/\Q H') X.xe s
abbrev Zh:=V->V->Hp->VK->Prop
def PIp(X:Cx)(op:Operator)(t:Zh):Prop:=
 ∀(ah:List (Addr×Obj)) (s:Shared) (σ:St) (H:Hp) (x y:V) (v u:Value) (Q:VK),Inv X ah σ H s->RelV x v->RelV y u->t x y H Q->
  wpAny (model X.prog X.w) X.A (inplaceOp op v u) (EP X ah σ Q) X.xe s
section
variable{X:Cx}{pos:Pos}
def uW(i:Nat):TG:=λv σ H Q=>Q (σ.set i (some v)) H
theorem j5(hN:X.N.Nodup)(hi:X.N[i]?=some x)(hx:Loc X.env.scope x)(hf:X.fn x=true\/X.env.scope.names.lookup x=some .local:=by first |exact .inl rfl |exact .inr rfl |assumption):PG X (.Name x pos) (uW i):=by intro ah s σ H v u Q I r h;exact wpAny_assign_Name (ou I hN hi hx r (λs' I'=>⟨_,H,I',h⟩) hf)
def gNil:Oq:=λvs σ H Q=>vs=[]/\Q σ H
noncomputable def Wk(t:TG)(u:Oq):Oq:=λvs σ H Q=>∃v r,vs=v::r/\t v σ H λσ' H'=>u r σ' H' Q
theorem sQ:Vl X [] gNil:=by intro ah s σ H vs us Q I r h;obtain⟨e,h⟩:=h;subst e;cases r;exact assignInOrder_nil ⟨σ,H,I,h⟩
theorem ig{e:Expr}{es:List Expr}{t:TG}{u:Oq}(h1:PG X e t)(h2:Vl X es u)
  (hs:(assignEach (e::es) X.env).map (·.2)=assign e X.env::(assignEach es X.env).map (·.2):=by rfl):Vl X (e::es) (Wk t u):=by
 intro ah s σ H vs us Q I r h;obtain⟨v,vr,e1,h⟩:=h;subst e1;cases r with
 |cons r rr=>
  rw[hs];refine assignInOrder_cons (cF (h1 ah s σ H _ _ _ I r h) λ_ s1 ⟨σ1,H1,I1,q1⟩=>?_)
  exact h2 ah s1 σ1 H1 _ _ Q I1 rr q1
def gTup(K:Frag)(n:Nat)(t:Oq):TG:=λv σ H Q=>∃a xs,v=.ref a/\fy K H a xs/\xs.length=n/\t xs σ H Q
theorem xF(hc:X.calm=true)(h:Vl X es t)
  (hn:(assignEach es X.env).length=n:=by rfl) (fh:(assignEach es X.env).findIdx? (·.1)=none:=by rfl):PG X (.Tuple es k pos) (gTup X.K n t):=by
 intro ah s σ H v u Q I r hw;obtain⟨a,xs,e1,hq,hl,hw⟩:=hw;subst e1;cases r;obtain⟨aA,rv,ht,hz⟩:=I.tuple hq;refine assign_Tuple_tuple (I.ok.hd hc) ht (by simp[hn,<- hl,rv.length]) fh λh' hx=>?_
 have I1:Inv X ah σ H { s with heap:=h'}:=I.kept (t':=s.toks) λb o e=>hx b o (hZ (eD e)) e
 exact h ah _ σ H xs _ Q I1 (by simpa using rv) hw
noncomputable def gSub(to ti:TE)(t:Ql):TG:=λv σ H Q=>to σ H λo H1=>ti σ H1 λi H2=>t o i v H2 λH3=>Q σ H3
theorem xG{o i:Expr}{to ti:TE}{t:Ql}(ho:PE X o to)(hi:PE X i ti)(hs:Wj X t)
  (ha:∀v,assign (.Subscript o i pos) X.env v=(do
   let ov <- holding [v] (eval o X.env)
   let iv <- holding [v,ov] (eval i X.env)
   standAt pos
   holding [v,ov,iv] (setItem ov iv v)
   release [v,ov,iv] []):=by intro _;rfl):PG X (.Subscript o i pos) (gSub to ti t):=by
 intro ah s σ H v u Q I r h;rw[ha];refine a9 (kA (cF (ho ah s σ H _ I h) λov s1 ⟨x,H1,I1,r1,q1⟩=>?_))
 refine a9 (kA (cF (hi ah s1 σ H1 _ I1 q1) λiv s2 ⟨y,H2,I2,r2,q2⟩=>?_))
 refine a9 (yA (a9 (kA (cF (hs ah s2 σ H2 x y v ov iv u _ I2 r1 r2 r q2) λ_ s3 ⟨H3,I3,q3⟩=>?_))))
 exact wpAny_release ⟨σ,H3,I3,q3⟩
def JM(te:TE)(g:TG):TS:=λD σ H=>te σ H λx H1=>g x σ H1 D.nx
theorem xH{tg e:Expr}{te:TE}{g:TG}(he:PE X e te)(hg:PG X tg g)(hs:swapsWithSole [tg] e pos.line X.env=pure false:=by rfl)(hw:swappedStores [tg] e X.env=pure none:=by rfl)
  (h1:(assignEach [tg] X.env).map (·.2)=[assign tg X.env]:=by rfl):PS X (.Assign [tg] e pos) (JM te g):=by
 intro ah s σ H D I h;refine wpAny_Assign_stores (cF (he ah s σ H _ I h) λv s1 ⟨x,H1,I1,r1,q1⟩=>?_) hs hw
 rw[h1];exact cF (hg ah s1 σ H1 x v _ I1 r1 q1) λ_ s2 q=>q
theorem Eh{i:Nat}{x:Str}{e:Expr}{te:TE}{pos':Pos}(hN:X.N.Nodup)(hi:X.N[i]?=some x)(hx:Loc X.env.scope x)(he:PE X e te)(hs:swapsWith e (some (.Name x pos')) pos.line X.env=pure false:=by rfl)(hf:X.fn x=true\/X.env.scope.names.lookup x=some .local:=by first |exact .inl rfl |exact .inr rfl |assumption) :
  PS X (.Assign [.Name x pos'] e pos) (JM te (uW i)):=by
 intro ah s σ H D I h;refine wpAny_Assign_Name (cF (he ah s σ H _ I h) λv s1 ⟨y,H1,I1,r1,q1⟩=>?_) hs
 exact ou I1 hN hi hx r1 (λs2 I2=>⟨_,H1,I2,q1⟩) hf
noncomputable def tAug(i:Nat)(te:TE)(ti:Zh):TS:=λD σ H=>∃x,σ[i]?=some (some x)/\te σ H λy H1=>ti x y H1 λz H2=>D.nx (σ.set i (some z)) H2
theorem Ei{i:Nat}{x:Str}{e:Expr}{te:TE}{op:Operator}{ti:Zh}{pos':Pos}(hN:X.N.Nodup)(hi:X.N[i]?=some x)(hx:Loc X.env.scope x)(he:PE X e te)(ho:PIp X op ti)(hf:X.fn x=true\/X.env.scope.names.lookup x=some .local:=by first |exact .inl rfl |exact .inr rfl |assumption) :
  PS X (.AugAssign (.Name x pos') op e pos) (tAug i te ti):=by
 intro ah s σ H D I h;obtain⟨v,e1,h⟩:=h;obtain⟨m,hn,hl⟩:=I.loc;have vis:mQ X.env.scope x:=by rcases hx with k |k;exact .inl k;exact .inr (.inl k)
 obtain⟨u,r,l⟩:=hl i x v hi e1 vis;refine wpAny_AugAssign_Name ?_;have go:wpAny (model X.prog X.w) X.A (eval e X.env) (λw s₂=>wpAny (model X.prog X.w) X.A (inplaceOp op u w) (λr s₃=>wpAny (model X.prog X.w) X.A (storeName X.env x r) (λ_=>SP X ah D .next) X.xe s₃) X.xe s₂) X.xe s:=by
  refine cF (he ah s σ H _ I h) λw s1 ⟨y,H1,I1,r1,q1⟩=>?_
  refine cF (ho ah s1 σ H1 v y u w _ I1 r r1 q1) λz s2 ⟨zv,H2,I2,r2,q2⟩=>?_
  exact ou I2 hN hi hx r2 (λs3 I3=>⟨_,H2,I3,q2⟩) hf
 rcases l with ⟨hk,hm⟩ |⟨hk,c,hc,hcell⟩
 . exact wpAny_loadName_local I.ok.kind hk hn hm go
 .
  rcases hk with hk |hk
  . exact wpAny_loadName_cell I.ok.kind hk hc hcell go
  .
   rcases hx with k |k
   . have:X.env.scope.names.lookup x=some .free:=hk;rw[k]at this;cases this
   . have:X.env.scope.names.lookup x=some .free:=hk;rw[k]at this;cases this
end
section
variable{X:Cx}{pos:Pos}
noncomputable def Qm(c:TT)(tb:TS):TS:=λD σ H=>∃W:Nat->St->Hp->Prop,(∃m,W m σ H)/\∀m σ H,W m σ H->
 c σ H λb H1=>if b=true then ∃N:St->Hp->Prop,(∀σ' H',N σ' H'->∃m',m'<m/\W m' σ' H')/\tb { D with nx:=N,ct:=N,bk:=D.nx} σ H1 else D.nx σ H1
theorem Ej{c:Expr}{body:List Stmt}{tc:TT}{tb:TS}(hp:PassesOwn (model X.prog X.w) X.A X.env X.xe)(hc:PT X c tc)(hb:uL X body tb):PS X (.While c body [] pos) (Qm tc tb):=by
 intro ah s σ H D I h;obtain⟨W,⟨m0,w0⟩,turn⟩:=h;refine wpAny_While (codeAny_whileLoop (λn s'=>∃σ' H',Inv X ah σ' H' s'/\W n σ' H') ?_ m0 ⟨σ,H,I,w0⟩)
 rintro n s1 ⟨σ1,H1,I1,w1⟩;refine yY hp (cF (hc ah s1 σ1 H1 _ I1 (turn n σ1 H1 w1)) λb s2 ⟨H2,I2,q2⟩=>?_)
 cases b with
 |true=>
  obtain⟨N,hN,q2⟩:=q2;rw[eP rfl];refine yY hp (cF (hb ah s2 σ1 H2 _ I2 q2) λf s3 q3=>?_)
  cases f with
  |next=>obtain⟨σ3,H3,I3,n3⟩:=q3;obtain⟨m',hm,w3⟩:=hN σ3 H3 n3;exact⟨m',hm,σ3,H3,I3,w3⟩
  |cont=>obtain⟨σ3,H3,I3,n3⟩:=q3;obtain⟨m',hm,w3⟩:=hN σ3 H3 n3;exact⟨m',hm,σ3,H3,I3,w3⟩
  |brk=>exact q3
  |ret v=>exact q3
 |false=>rw[eQ hU];exact wpAny_execs_nil ⟨σ1,H2,I2,q2⟩
end
structure It where
 go:Nat->Hp->Prop
 Wm:Nat->Hp->V->Hp->Prop
 stop:Nat->Hp->Prop
def oz(X:Cx)(ah:List (Addr×Obj))(H:Hp)(b:Addr):Prop:=
 H b=none/\b≠X.env.locals/\b∉X.fs/\(b∈X.ex\/X.s₀⁻¹<=b)/\(∀x c,X.env.cells.lookup x=some c->c≠b)/\∀p∈X.pn++ah,p.1≠b
theorem Inv.xJ{X:Cx}{ah:List (Addr×Obj)}{σ:St}{H H':Hp}{s:Shared}{b:Addr}(I:Inv X ah σ H s)(hb:s⁻¹<=b)(hn:H' b=none):oz X ah H' b:=by
 refine⟨hn,Nat.ne_of_gt (fI I.lt hb),I.Z5 hb,.inr (hV I.sz hb),λx c e z=>?_,λp hp z=>?_⟩
 . obtain⟨v,q⟩:=I.cell x c e;exact absurd (fI q.lt (by rw[z];exact hb)) (mB _)
 . exact absurd (fI (eD (I.pin p hp).1) (by rw[z];exact hb)) (mB _)
structure Turn(P:Program)(w:World)(K:Frag)(tg:Expr)(J:It)(fp:List Addr)(it:Addr)(tn:Nat->Heap->Prop):Prop where
 mem:it∈fp
 obj:∀i h,tn i h->∀b∈fp,∃o,h.get? b=some o/\∀v,o.data≠.cell v
 keep:∀i h h',tn i h->(∀b∈fp,∀o,h.get? b=some o->h'.get? b=some o)->tn i h'
 item:∀(X:Cx),X.prog=P->X.w=w->X.K=K->X.calm=true->∀(i:Nat) (ah:List (Addr×Obj)) (s:Shared) (σ:St) (H:Hp) (E:Value->Shared->Prop),Inv X ah σ H s->(∀b∈fp,oz X ah H b)->tn i s.heap->J.go i H->
  wpAny (model P w) X.A (pyNext (.ref it)) (λr s1=>∃u,r=some u/\
   wpAny (model P w) X.A (letOwnedTupleGo tg (.ref it) u) (λ_ s2=>∃x H',Inv X ah σ H' s2/\RelV x u/\J.Wm i H x H'/\tn (i+1) s2.heap/\∀b∈fp,H' b=none) E s1) E s
 done:∀(X:Cx),X.prog=P->X.w=w->X.K=K->X.calm=true->∀(i:Nat) (ah:List (Addr×Obj)) (s:Shared) (σ:St) (H:Hp) (E:Value->Shared->Prop),Inv X ah σ H s->(∀b∈fp,oz X ah H b)->tn i s.heap->J.stop i H->
  wpAny (model P w) X.A (pyNext (.ref it)) (λr s1=>r=none/\Inv X ah σ H s1) E s
 self:∀(A:Around) (i:Nat) (s:Shared) (Q:Value->Shared->Prop) (E:Value->Shared->Prop),tn i s.heap->Q (.ref it) s->wpAny (model P w) A (pyIter (.ref it)) Q E s
abbrev TI:=St->Hp->(It->Hp->Prop)->Prop
def PIE(X:Cx)(ah:List (Addr×Obj))(σ:St)(tg:Expr)(R:It->Hp->Prop)(itv:Value)(s2:Shared):Prop:=
 ∃(it:Addr) (fp:List Addr) (tn:Nat->Heap->Prop) (J:It) (H':Hp),itv=.ref it/\Inv X ah σ H' s2/\Turn X.prog X.w X.K tg J fp it tn/\tn 0 s2.heap/\(∀b∈fp,oz X ah H' b)/\R J H'
def PI(X:Cx)(tg iter:Expr)(wi:TI):Prop:=
 ∀(ah:List (Addr×Obj)) (s:Shared) (σ:St) (H:Hp) (R:It->Hp->Prop),Inv X ah σ H s->wi σ H R->
  wpAny (model X.prog X.w) X.A (eval iter X.env) (λv s1=>wpAny (model X.prog X.w) X.A (pyIter v) (PIE X ah σ tg R) X.xe s1) X.xe s
theorem zh(ho:s.heap.get? it=some o)(hc:o.cls=.type n)(hd:o.data=.fields vs)
  (hn:["enumerate", "zip", "dict_itemiterator", "dict_reverseitemiterator", "odict_iterator", "itertools.zip_longest", "itertools.pairwise"].contains n=false) (hQ:Q () s):wpAny M A (letOwnedTupleGo tg (.ref it) u) Q E s:=by
 unfold letOwnedTupleGo;cases tg <;> first
  |exact d6 hQ
  | (cases u <;> first
    |exact d6 hQ
    | (refine a9 (wpAny_load ho ?_)
       rw[hc,hd];show wpAny M A (if (["enumerate", "zip", "dict_itemiterator", "dict_reverseitemiterator", "odict_iterator", "itertools.zip_longest", "itertools.pairwise"].contains n&&vs[0]?==some (rawInt _))=true then _ else _) Q E s
       rw[eQ (by intro h;rw[hn,Bool.false_and]at h;cases h)]
       exact d6 hQ))
def Itl(K:Frag)(a:Addr):It:=
 ⟨λi H=>∃xs x,bY K H a xs/\xs[i]?=some x,λi H x H'=>H'=H/\∀xs,bY K H a xs->xs[i]?=some x,λi H=>∃xs,bY K H a xs/\xs.length<=i⟩
def Itt(K:Frag)(a:Addr):It:=
 ⟨λi H=>∃xs x,fy K H a xs/\xs[i]?=some x,λi H x H'=>H'=H/\∀xs,fy K H a xs->xs[i]?=some x,λi H=>∃xs,fy K H a xs/\xs.length<=i⟩
noncomputable def Qn(lo:Int)(n:Nat):It:=⟨λi _=>i<n,λi H x H'=>H'=H/\x=.int (lo+i),λi _=>n<=i⟩
theorem Aw{P:Program}{w:World}{K:Frag}{tg:Expr}(a it:Addr):Turn P w K tg (Itl K a) [it] it (λi h=>h.IsListIter it a i) where
 mem:=by simp
 obj:=λi h st b hb=>by
  have e:b=it:=by simpa using hb
  subst e;obtain⟨o,e,c,d⟩:=st;exact⟨o,e,λv z=>by rw[d]at z;cases z⟩
 keep:=λi h h' st k=>st.at λo e=>k it ⋯ o e
 item:=by
  intro X hP hw hK hc i ah s σ H E I hf st hg;subst hP hw hK;obtain⟨xs,x,hq,hx⟩:=hg;obtain⟨aA,rv,p,hz⟩:=I.list hq;obtain⟨u,hu,ru⟩:=rv.get hx;obtain⟨f0,f1,f2,f3,f4,f5⟩:=hf it ⋯;refine wpAny_pyNext_list_item st p.isList (x:=u) (by simpa using hu) λh' st' sb=>?_
  have I1:Inv X ah σ H { s with heap:=h'}:=I.turned (t':=s.toks) (λb o hb e=>(sb.2 b hb).trans e) f0 f1 f3 f4 f5
  obtain⟨o,e,c,d⟩:=id st';exact⟨u,rfl,zh (s:={ s with heap:=h'}) e c d ⋯ ⟨x,H,I1,ru,⟨rfl,λys hy=>by rw[I.uV hy hq];exact hx⟩,st',λb hb=>(hf b hb).1⟩⟩
 done:=by intro X hP hw hK hc i ah s σ H E I hf st hg;subst hP hw hK;obtain⟨xs,hq,hx⟩:=hg;obtain⟨aA,rv,p,hz⟩:=I.list hq;obtain⟨f0,f1,f2,f3,f4,f5⟩:=hf it ⋯;have hl:=rv.length;exact wpAny_pyNext_list_end (I.ok.hd hc) st p.isList (by simp;lia) λh' eb=>⟨rfl,I.turned (t':=s.toks) (λb o hb e=>eb b o hb e) f0 f1 f3 f4 f5⟩
 self:=λ_ _ _ _ _ st h=>wpAny_pyIter_listiter st h
theorem xK{P:Program}{w:World}{K:Frag}{tg:Expr}(a it:Addr):Turn P w K tg (Itt K a) [it] it (λi h=>h.IsTupleIter it a i) where
 mem:=by simp
 obj:=λi h st b hb=>by
  have e:b=it:=by simpa using hb
  subst e;obtain⟨o,e,c,d⟩:=st;exact⟨o,e,λv z=>by rw[d]at z;cases z⟩
 keep:=λi h h' st k=>st.at λo e=>k it ⋯ o e
 item:=by
  intro X hP hw hK hc i ah s σ H E I hf st hg;subst hP hw hK;obtain⟨xs,x,hq,hx⟩:=hg;obtain⟨aA,rv,p,hz⟩:=I.tuple hq;obtain⟨u,hu,ru⟩:=rv.get hx;obtain⟨f0,f1,f2,f3,f4,f5⟩:=hf it ⋯;refine wpAny_pyNext_tuple_item st (show s.heap.IsTuple a aA.toArray from p) (x:=u) (by simpa using hu) λh' st' sb=>?_
  have I1:Inv X ah σ H { s with heap:=h'}:=I.turned (t':=s.toks) (λb o hb e=>(sb.2 b hb).trans e) f0 f1 f3 f4 f5
  obtain⟨o,e,c,d⟩:=id st';exact⟨u,rfl,zh (s:={ s with heap:=h'}) e c d ⋯ ⟨x,H,I1,ru,⟨rfl,λys hy=>by rw[I.rm hy hq];exact hx⟩,st',λb hb=>(hf b hb).1⟩⟩
 done:=by intro X hP hw hK hc i ah s σ H E I hf st hg;subst hP hw hK;obtain⟨xs,hq,hx⟩:=hg;obtain⟨aA,rv,p,hz⟩:=I.tuple hq;obtain⟨f0,f1,f2,f3,f4,f5⟩:=hf it ⋯;have hl:=rv.length;exact wpAny_pyNext_tuple_end (I.ok.hd hc) st (show s.heap.IsTuple a aA.toArray from p) (by simp;lia) λh' eb=>⟨rfl,I.turned (t':=s.toks) (λb o hb e=>eb b o hb e) f0 f1 f3 f4 f5⟩
 self:=λ_ _ _ _ _ st h=>wpAny_pyIter_tupleiter st h
theorem xM{P:Program}{w:World}{K:Frag}{tg:Expr}(it:Addr)(lo:Int)(n:Nat):Turn P w K tg (Qn lo n) [it] it (λi h=>IsRangeIter h it (lo+(i:Nat) * 1) ((n:Int) - (i:Nat)) 1) where
 mem:=by simp
 obj:=λi h st b hb=>by
  have e:b=it:=by simpa using hb
  subst e;exact⟨_,st,λv z=>by
   have z':Data.fields _=Data.cell v:=z;cases z'⟩
 keep:=λi h h' st k=>k it ⋯ _ st
 item:=by
  intro X hP hw hK hc i ah s σ H E I hf st hg;subst hP hw hK;obtain⟨f0,f1,f2,f3,f4,f5⟩:=hf it ⋯;have W:=Walks.range (prog:=X.prog) (w:=X.w) (I.ok.hd hc) it lo 1 n;refine W.item i s _ _ hg st λv h' tk hv st' kk=>?_
  obtain⟨t,rfl⟩:=hv;have I1:Inv X ah σ H { s with heap:=h',toks:=tk}:=I.turned (λb o hb e=>kk b o (by simpa using hb) e) f0 f1 f3 f4 f5
  refine⟨_,rfl,zh (s:={ s with heap:=h',toks:=tk}) (n:= "range_iterator") st' rfl rfl ⋯ ⟨.int (lo+i),H,I1,⟨t,?_⟩,⟨rfl,rfl⟩,st',λb hb=>(hf b hb).1⟩⟩
  rw[Int.mul_one]
 done:=by intro X hP hw hK hc i ah s σ H E I hf st hg;subst hP hw hK;obtain⟨f0,f1,f2,f3,f4,f5⟩:=hf it ⋯;exact wpAny_pyNext_range_end (I.ok.hd hc) st (by have:n<=i:=hg;lia) λh' eb=>⟨rfl,I.turned (t':=s.toks) (λb o hb e=>eb b o hb e) f0 f1 f3 f4 f5⟩
 self:=λ_ _ _ _ _ st h=>wpAny_pyIter_rangeiter st h
section
variable{X:Cx}{tg:Expr}
def Wn(K:Frag)(tl:TE):TI:=λσ H R=>tl σ H λx H1=>∃a,x=.ref a/\(∃xs,bY K H1 a xs)/\R (Itl K a) H1
def iTup(K:Frag)(tl:TE):TI:=λσ H R=>tl σ H λx H1=>∃a,x=.ref a/\(∃xs,fy K H1 a xs)/\R (Itt K a) H1
theorem zj{l:Expr}{tl:TE}(hl:PE X l tl):PI X tg l (Wn X.K tl):=by
 intro ah s σ H R I h;refine cF (hl ah s σ H _ I h) λv s1 ⟨x,H1,I1,r1,q1⟩=>?_
 obtain⟨a,e,⟨xs,hq⟩,q⟩:=q1;subst e;cases r1;obtain⟨aA,rv,p,hz⟩:=I1.list hq;refine sR p.isList ?_;refine⟨s1⁻¹,[s1⁻¹],_,_,H1,rfl,I1.kept (t':=s1.toks) λb o e=>b7 _ e,Aw a _,⟨_,eA _ rfl,rfl,rfl⟩,λb hb=>?_,q⟩
 have e:b=s1⁻¹:=by simpa using hb
 subst e;exact I1.xJ (d5 _) (I1.hok.fresh (d5 _))
theorem Ek{l:Expr}{tl:TE}(hl:PE X l tl):PI X tg l (iTup X.K tl):=by
 intro ah s σ H R I h;refine cF (hl ah s σ H _ I h) λv s1 ⟨x,H1,I1,r1,q1⟩=>?_
 obtain⟨a,e,⟨xs,hq⟩,q⟩:=q1;subst e;cases r1;obtain⟨aA,rv,p,hz⟩:=I1.tuple hq;refine t8 (show s1.heap.IsTuple a aA.toArray from p) ?_
 refine⟨s1⁻¹,[s1⁻¹],_,_,H1,rfl,I1.kept (t':=s1.toks) λb o e=>b7 _ e,xK a _,⟨_,eA _ rfl,rfl,rfl⟩,λb hb=>?_,q⟩
 have e:b=s1⁻¹:=by simpa using hb
 subst e;exact I1.xJ (d5 _) (I1.hok.fresh (d5 _))
theorem uX{ah:List (Addr×Obj)}{σ:St}{H:Hp}{s:Shared}{R:It->Hp->Prop}{E:Value->Shared->Prop}{lo hi:Int}{t u v:Tok}{tk:Nat}(I:Inv X ah σ H s)(h1 : -(2 ^ 62)<=lo)(h2:lo<2 ^ 62)(h3 : -(2 ^ 62)<=hi)(h4:hi<2 ^ 62)
  (q:R (Qn lo (hi - lo).toNat) H):wpAny (model X.prog X.w) X.A (pyIter (.ref s⁻¹)) (PIE X ah σ tg R) E { s with heap:=s.heap.push { cls:=.type "range",data:=.fields #[.int lo t,.int hi u,.int 1 v]},toks:=tk}:=by
 refine wpAny_pyIter_range (IsRange.new ..) (small_one h1 h2 h3 h4) ?_;have I1:Inv X ah σ H { s with heap:=s.heap.push { cls:=.type "range",data:=.fields #[.int lo t,.int hi u,.int 1 v]},toks:=tk}:=I.kept λb o e=>b7 _ e
 refine⟨(s.heap.push { cls:=.type "range",data:=.fields #[.int lo t,.int hi u,.int 1 v]}).objs.size,[(s.heap.push { cls:=.type "range",data:=.fields #[.int lo t,.int hi u,.int 1 v]}).objs.size],_,_,H,rfl,
  I1.kept (t':=tk) λb o e=>b7 _ e,xM _ lo (hi - lo).toNat,?_,λb hb=>?_,q⟩
 .
  have e1:lo+((0:Nat):Int) * 1=lo:=by simp
  have e2:(((hi - lo).toNat:Nat):Int) - ((0:Nat):Int)=Builtin.Range.rangeSize lo hi 1:=by rw[rangeSize_one];split <;> lia
  show IsRangeIter _ _ (lo+((0:Nat):Int) * 1) ((((hi - lo).toNat:Nat):Int) - ((0:Nat):Int)) 1;rw[e1,e2];exact eA _ rfl
 .
  have e:b=(s.heap.push { cls:=.type "range",data:=.fields #[.int lo t,.int hi u,.int 1 v]}).objs.size:=by simpa using hb
  subst e;exact I1.xJ (d5 _) (I1.hok.fresh (d5 _))
def Wo(ta:TA):TI:=λσ H R=>ta σ H λvs H1=>∃j:Int,vs=[.int j]/\-(2 ^ 62)<=j/\j<2 ^ 62/\R (Qn 0 j.toNat) H1
def Wq(ta:TA):TI:=λσ H R=>ta σ H λvs H1=>∃i j:Int,vs=[.int i,.int j]/\(-(2 ^ 62)<=i/\i<2 ^ 62/\-(2 ^ 62)<=j/\j<2 ^ 62)/\R (Qn i (j - i).toNat) H1
theorem rq{a:Expr}{ta:TA}{p pos:Pos}(hg:Gl X "range")(hm:X.mg "range"=none)(ha:PA X [a] ta)(hs:starEach [a] X.env=[(false,eval a X.env)]:=by rfl):PI X tg (.Call (.Name "range" p) [a] [] pos) (Wo ta):=by
 intro ah s σ H R I h;refine Call_ (fF I hg hm boot_range (l9 (cF (ha pos ah s σ H _ I h) λus s1 ⟨vs,H1,I1,r1,q1⟩=>?_) hs rfl))
 obtain⟨j,e,q1,q2,q⟩:=q1;subst e;cases r1 with
 |cons r rr=>cases rr;obtain⟨t,rfl⟩:=r;exact call_range_1 (uX I1 ⋯ ⋯ q1 q2 (by simpa using q))
theorem Ax{a b:Expr}{ta:TA}{p pos:Pos}(hg:Gl X "range")(hm:X.mg "range"=none)(ha:PA X [a,b] ta)(hs:starEach [a,b] X.env=[(false,eval a X.env),(false,eval b X.env)]:=by rfl)(hs2:starEach [b] X.env=[(false,eval b X.env)]:=by rfl) :
  PI X tg (.Call (.Name "range" p) [a,b] [] pos) (Wq ta):=by
 intro ah s σ H R I h;refine Call_ (fF I hg hm boot_range (l9 (cF (ha pos ah s σ H _ I h) λus s1 ⟨vs,H1,I1,r1,q1⟩=>?_) (by rw[hs,hs2]) (by rw[hs2];rfl)))
 obtain⟨i,j,e,⟨q1,q2,q3,q4⟩,q⟩:=q1;subst e;cases r1 with
 |cons r rr=>
  cases rr with
  |cons r' rr=>cases rr;obtain⟨t,rfl⟩:=r;obtain⟨t',rfl⟩:=r';exact call_range_2 (uX I1 q1 q2 q3 q4 q)
noncomputable def tFor(wi:TI)(g:TG)(tb:TS):TS:=λD σ H=>wi σ H λJ H1=>∃W:Nat->Nat->St->Hp->Prop,(∃m,W 0 m σ H1)/\∀i m σ H,W i m σ H->
 (J.stop i H/\D.nx σ H)\/(J.go i H/\∃N:St->Hp->Prop,(∀σ' H',N σ' H'->∃m',m'<m/\W (i+1) m' σ' H')/\∀x H',J.Wm i H x H'->g x σ H' λσ2 H2=>tb { D with nx:=N,ct:=N,bk:=D.nx} σ2 H2)
noncomputable def lz(fp:List Addr)(h:Heap):List (Addr×Obj):=fp.filterMap λb=>(h.get? b).map λo=>(b,o)
theorem dQ{fp:List Addr}{h:Heap}{b:Addr}{o:Obj}(hb:b∈fp)(e:h.get? b=some o):(b,o)∈lz fp h:=List.mem_filterMap.mpr ⟨b,hb,by rw[e];rfl⟩
theorem Ay(hp:p∈lz fp h):p.1∈fp/\h.get? p.1=some p.2:=by
 obtain⟨b,hb,e⟩:=List.mem_filterMap.mp hp;cases q:h.get? b with
 |none=>rw[q]at e;cases e
 |some o=>rw[q]at e;have e':(b,o)=p:=nS e;subst e';exact⟨hb,q⟩
theorem Inv.pinned{ah:List (Addr×Obj)}{σ:St}{H:Hp}{s:Shared}{fp:List Addr}(I:Inv X ah σ H s)(hf:∀b∈fp,oz X ah H b)(ho:∀b∈fp,∃o,s.heap.get? b=some o/\∀v,o.data≠.cell v):Inv X (ah++lz fp s.heap) σ H s:=
 I.zc λp hp=>(AC.mp hp).elim (λz=>I.pin p (gN _ z)) λz=>by
  obtain⟨hb,e⟩:=Ay z;obtain⟨f0,f1,f2,_⟩:=hf p.1 hb;obtain⟨o,e',d⟩:=ho p.1 hb;rw[e]at e';cases e';exact⟨e,f0,f1,f2,d⟩
theorem Inv.iu{ah pl:List (Addr×Obj)}{σ:St}{H:Hp}{s:Shared}(I:Inv X (ah++pl) σ H s):Inv X ah σ H s:=I.zc λp hp=>I.pin p (gN _ (pE _ hp))
theorem El{iter:Expr}{body:List Stmt}{wi:TI}{g:TG}{tb:TS}{pos:Pos}(hp:PassesOwn (model X.prog X.w) X.A X.env X.xe)(hc:X.calm=true)(hi:PI X tg iter wi)(hg:PG X tg g)(hb:uL X body tb)
  (hs:∀x,foldedSetIterable iter X.env x=pure x:=by intro _;rfl):PS X (.For tg iter body [] pos) (tFor wi g tb):=by
 intro ah s σ H D I h;refine wpAny_For (cF (hi ah s σ H _ I h) λv s1 h1=>cF h1 λitv s2 h2=>?_) hs
 obtain⟨it,fp,tn,J,H2,e,I2,T,aN,f2,W,⟨m0,w0⟩,turn⟩:=h2;subst e;have stat:∀{H':Hp},(∀b∈fp,H' b=none)->∀b∈fp,oz X ah H' b:=λhn b hb=>⟨hn b hb,(f2 b hb).2⟩
 refine codeAny_forLoop_any (λn s'=>∃i σ' H',Inv X ah σ' H' s'/\tn i s'.heap/\(∀b∈fp,H' b=none)/\W i n σ' H') ?_ m0 ⟨0,σ,H2,I2,aN,λb hb=>(f2 b hb).1,w0⟩
 rintro n s3 ⟨i,σ3,H3,I3,eX,Ot,w3⟩;rcases turn i n σ3 H3 w3 with ⟨stop,qn⟩ |⟨go,N,hN,step⟩
 .
  refine yY hp (cF (T.done X rfl rfl rfl hc i ah s3 σ3 H3 X.xe I3 (stat Ot) eX stop) λr s4 ⟨hr,I4⟩=>?_)
  subst hr;exact wpAny_execs_nil ⟨σ3,H3,I4,qn⟩
 .
  refine yY hp (cF (T.item X rfl rfl rfl hc i ah s3 σ3 H3 X.xe I3 (stat Ot) eX go) λr s4 ⟨u,hr,h4⟩=>?_)
  subst hr;refine yY hp (cF h4 λ_ s5 ⟨x,H5,I5,r5,y5,lC,Wr⟩=>?_)
  have Ws:=I5.pinned (stat Wr) (T.obj _ _ lC);refine yY hp (cF (hg _ s5 σ3 H5 x u _ Ws r5 (step x H5 y5)) λ_ s6 ⟨σ6,H6,I6,q6⟩=>?_)
  refine yY hp (cF (hb _ s6 σ6 H6 _ I6 q6) λf s7 q7=>?_)
  have again:∀{σ7:St}{H7:Hp},Inv X (ah++lz fp s5.heap) σ7 H7 s7->N σ7 H7->∃m,m<n/\∃i σ' H',Inv X ah σ' H' s7/\tn i s7.heap/\(∀b∈fp,H' b=none)/\W i m σ' H':=λ{σ7 H7} I7 n7=>by
   obtain⟨m',hm,w7⟩:=hN σ7 H7 n7;refine⟨m',hm,i+1,σ7,H7,I7.iu,T.keep _ _ _ lC λb hb o e=>(I7.pin (b,o) (gN _ (gN _ (dQ hb e)))).1,λb hb=>?_,w7⟩
   obtain⟨o,e,d⟩:=T.obj _ _ lC b hb;exact (I7.pin (b,o) (gN _ (gN _ (dQ hb e)))).2.1
  cases f with
  |next=>obtain⟨σ7,H7,I7,n7⟩:=q7;exact again I7 n7
  |cont=>obtain⟨σ7,H7,I7,n7⟩:=q7;exact again I7 n7
  |brk=>obtain⟨σ7,H7,I7,q7⟩:=q7;exact⟨σ7,H7,I7.iu,q7⟩
  |ret v=>obtain⟨x7,σ7,H7,I7,r7,q7⟩:=q7;exact⟨x7,σ7,H7,I7.iu,r7,q7⟩
end
abbrev R2:=V->V->Hp->VK->Prop
def jX(X:Cx)(f:Value->Value->Sem Value)(r:R2):Prop:=
 ∀(ah:List (Addr×Obj)) (s:Shared) (σ:St) (H:Hp) (x y:V) (v u:Value) (Q:VK),Inv X ah σ H s->RelV x v->RelV y u->r x y H Q->
  wpAny (model X.prog X.w) X.A (f v u) (EP X ah σ Q) X.xe s
def Zi(X:Cx)(f:Value->Sem Value)(r:V->Hp->VK->Prop):Prop:=
 ∀(ah:List (Addr×Obj)) (s:Shared) (σ:St) (H:Hp) (x:V) (v:Value) (Q:VK),Inv X ah σ H s->RelV x v->r x H Q->
  wpAny (model X.prog X.w) X.A (f v) (EP X ah σ Q) X.xe s
def dO(X:Cx)(f:Value)(r:List V->Hp->VK->Prop):Prop:=
 ∀(ah:List (Addr×Obj)) (s:Shared) (σ:St) (H:Hp) (xs:List V) (us:List Value) (Q:VK),Inv X ah σ H s->Vals xs us->r xs H Q->
  wpAny (model X.prog X.w) X.A (call f us) (EP X ah σ Q) X.xe s
def TruR(X:Cx)(r:V->Hp->(Bool->Hp->Prop)->Prop):Prop:=
 ∀(ah:List (Addr×Obj)) (s:Shared) (σ:St) (H:Hp) (x:V) (v:Value) (Q:Bool->Hp->Prop),Inv X ah σ H s->RelV x v->r x H Q->
  wpAny (model X.prog X.w) X.A (truthy v) (TP X ah σ Q) X.xe s
noncomputable def Zj(r:R2)(ta tb:TE):TE:=λσ H Q=>ta σ H λx H1=>tb σ H1 λy H2=>r x y H2 Q
def tUn(r:V->Hp->VK->Prop)(ta:TE):TE:=λσ H Q=>ta σ H λx H1=>r x H1 Q
noncomputable def rI(C:Int->Int->Prop)(g:Int->Int->V):R2:=λx y H Q=>∃i j,x=.int i/\y=.int j/\C i j/\Q (g i j) H
noncomputable def DG(g:Int->Int->V):R2:=λx y H Q=>∃i j,x=.int i/\y=.int j/\Q (g i j) H
def rU(g:Int->V):V->Hp->VK->Prop:=λx H Q=>∃i,x=.int i/\Q (g i) H
section
variable{X:Cx}{a b c:Expr}{ta tb tc:TE}{pos:Pos}
theorem Qo(ha:PE X a ta)(hb:PE X b tb){ah:List (Addr×Obj)}{s:Shared}{σ:St}{H:Hp}{R:V->V->Hp->Prop}(I:Inv X ah σ H s)
  (h:ta σ H λx H1=>tb σ H1 λy H2=>R x y H2) {Q:Value->Shared->Prop}{f:Value->Value->Sem Value}
  (hf:∀v u s2 x y H2,Inv X ah σ H2 s2->RelV x v->RelV y u->R x y H2->wpAny (model X.prog X.w) X.A (f v u) Q X.xe s2) :
  wpAny (model X.prog X.w) X.A (eval a X.env) (λv s₁=>wpAny (model X.prog X.w) X.A (eval b X.env) (λu s₂=>wpAny (model X.prog X.w) X.A (f v u) Q X.xe s₂) X.xe s₁) X.xe s:=by
 refine cF (ha ah s σ H _ I h) λv s1 ⟨x,H1,I1,r1,q1⟩=>?_
 refine cF (hb ah s1 σ H1 _ I1 q1) λu s2 ⟨y,H2,I2,r2,q2⟩=>?_
 exact hf v u s2 x y H2 I2 r1 r2 q2
theorem Wt{op:Operator}{r:R2}(ho:jX X (binaryOp op) r)(ha:PE X a ta)(hb:PE X b tb):PE X (.BinOp a op b pos) (Zj r ta tb):=by intro ah s σ H Q I h;exact wpAny_BinOp (Qo ha hb I h λv u s2 x y H2 I2 rx ry q=>ho ah s2 σ H2 x y v u Q I2 rx ry q)
theorem Wu{op:UnaryOp}{r:V->Hp->VK->Prop}(ho:Zi X (unaryOp op) r)(ha:PE X a ta):PE X (.UnaryOp op a pos) (tUn r ta):=by intro ah s σ H Q I h;exact UnaryOp_ (cF (ha ah s σ H _ I h) λv s1 ⟨x,H1,I1,r1,q1⟩=>ho ah s1 σ H1 x v Q I1 r1 q1)
theorem Wv{f:Value->Value->Sem Value}{C:Int->Int->Prop}{g:Int->Int->Int}
  (rule:∀(i j:Int) (t u:Tok) (s:Shared) (Q:Value->Shared->Prop) (E:Value->Shared->Prop),C i j->Q (.int (g i j) s.toks) { s with toks:=s.toks+1}->wpAny (model X.prog X.w) X.A (f (.int i t) (.int j u)) Q E s) :
  jX X f (rI C λi j=>.int (g i j)):=by
 intro ah s σ H x y v u Q I rx ry h;obtain⟨i,j,rfl,rfl,hc,q⟩:=h;obtain⟨t,rfl⟩:=rx;obtain⟨t',rfl⟩:=ry;exact rule i j t t' s _ _ hc ⟨.int (g i j),H,I.tok _,⟨_,rfl⟩,q⟩
theorem JN{f:Value->Value->Sem Value}{g:Int->Int->Int}
  (rule:∀(i j:Int) (t u:Tok) (s:Shared) (Q:Value->Shared->Prop) (E:Value->Shared->Prop),Q (.int (g i j) s.toks) { s with toks:=s.toks+1}->wpAny (model X.prog X.w) X.A (f (.int i t) (.int j u)) Q E s) :
  jX X f (DG λi j=>.int (g i j)):=by
 intro ah s σ H x y v u Q I rx ry h;obtain⟨i,j,rfl,rfl,q⟩:=h;obtain⟨t,rfl⟩:=rx;obtain⟨t',rfl⟩:=ry;exact rule i j t t' s _ _ ⟨.int (g i j),H,I.tok _,⟨_,rfl⟩,q⟩
theorem JQ{f:Value->Value->Sem Value}{g:Int->Int->Bool}
  (rule:∀(i j:Int) (t u:Tok) (s:Shared) (Q:Value->Shared->Prop) (E:Value->Shared->Prop),Q (.bool (g i j)) s->wpAny (model X.prog X.w) X.A (f (.int i t) (.int j u)) Q E s) :
  jX X f (DG λi j=>.bl (g i j)):=by
 intro ah s σ H x y v u Q I rx ry h;obtain⟨i,j,rfl,rfl,q⟩:=h;obtain⟨t,rfl⟩:=rx;obtain⟨t',rfl⟩:=ry;exact rule i j t t' s _ _ ⟨.bl (g i j),H,I,rfl,q⟩
def CDiv(i j:Int):Prop:=0<j/\j<1073741824
def CPow(i j:Int):Prop:=0<=j/\j<=1000000/\i.natAbs<2 ^ 64
def JR(i j:Int):Prop:=(-(2 ^ 64)<i/\i<2 ^ 64)\/(-(2 ^ 64)<j/\j<2 ^ 64)
theorem JR.ok{i j:Int}(h:JR i j):IntMulOk i j:=by
 rcases h with ⟨h1,h2⟩ |⟨h1,h2⟩
 . exact .of_left (intBits_le_64 h1 h2)
 . exact .of_right (intBits_le_64 h1 h2)
theorem Qp:jX X (binaryOp .Add) (DG λi j=>.int (i+j)):=JN λ_ _ _ _ _ _ _ q=>add_int q
theorem Qq:jX X (binaryOp .Sub) (DG λi j=>.int (i - j)):=JN λ_ _ _ _ _ _ _ q=>sub_int q
theorem Qs:jX X (binaryOp .Mult) (rI JR λi j=>.int (i * j)):=Wv λ_ _ _ _ _ _ _ hc q=>mul_int q hc.ok
theorem JT:jX X (binaryOp .FloorDiv) (rI CDiv λi j=>.int (i / j)):=Wv λi j _ _ _ _ _ hc q=>by
 have h1:(0:Int)<j:=hc.1;have h2:j<1073741824:=hc.2;exact floordiv_int ⋯ (by rw[Int.fdiv_eq_ediv_of_nonneg i ⋯];exact q) (.inl (PyProof.noPylong_small ⋯))
theorem Qt:jX X (binaryOp .Mod) (rI (λ_ j=>0<j) λi j=>.int (i % j)):=Wv λi j _ _ _ _ _ hc q=>by
 have h1:(0:Int)<j:=hc;exact mod_int' ⋯ (by rw[Int.fmod_eq_emod_of_nonneg i ⋯];exact q)
theorem sS:jX X (binaryOp .Pow) (rI CPow λi j=>.int (i ^ j.toNat)):=Wv λ_ _ _ _ _ _ _ hc q=>pow_int_small hc.1 hc.2.1 hc.2.2 q
theorem JV:jX X (inplaceOp .Add) (DG λi j=>.int (i+j)):=JN λ_ _ _ _ _ _ _ q=>iadd_int q
theorem JW:jX X (inplaceOp .Sub) (DG λi j=>.int (i - j)):=JN λ_ _ _ _ _ _ _ q=>isub_int q
theorem JX:jX X (inplaceOp .Mult) (rI JR λi j=>.int (i * j)):=Wv λ_ _ _ _ _ _ _ hc q=>imul_int q hc.ok
theorem unI{f:Value->Sem Value}{g:Int->Int}
  (rule:∀(i:Int) (t:Tok) (s:Shared) (Q:Value->Shared->Prop) (E:Value->Shared->Prop),Q (.int (g i) s.toks) { s with toks:=s.toks+1}->wpAny (model X.prog X.w) X.A (f (.int i t)) Q E s) :
  Zi X f (rU λi=>.int (g i)):=by
 intro ah s σ H x v Q I rx h;obtain⟨i,rfl,q⟩:=h;obtain⟨t,rfl⟩:=rx;exact rule i t s _ _ ⟨.int (g i),H,I.tok _,⟨_,rfl⟩,q⟩
theorem Qu:Zi X (unaryOp .USub) (rU λi=>.int (-i)):=unI λ_ _ _ _ _ q=>neg_int q
end
section
variable{X:Cx}{a b c:Expr}{ta tb tc:TE}{pos:Pos}
theorem Em(I:Inv X ah σ H s)(q:Q (.bl k) H)(e:k=k'):EP X ah σ Q (.bool k') s:=by subst e;exact⟨.bl k,H,I,rfl,q⟩
theorem Ww:jX X (compareOp .Lt) (DG λi j=>.bl (decide (i<j))):=JQ λ_ _ _ _ _ _ _ q=>lt_int q
theorem Wx:jX X (compareOp .LtE) (DG λi j=>.bl (decide (i<=j))):=JQ λ_ _ _ _ _ _ _ q=>le_int q
theorem Wy:jX X (compareOp .Gt) (DG λi j=>.bl (decide (j<i))):=JQ λ_ _ _ _ _ _ _ q=>gt_int q
theorem Wz:jX X (compareOp .GtE) (DG λi j=>.bl (decide (j<=i))):=JQ λ_ _ _ _ _ _ _ q=>ge_int q
theorem Qv:jX X (compareOp .Is) (λx y H Q=>y=.non/\Q (.bl (decide (x=.non))) H):=by
 intro ah s σ H x y v u Q I rx ry h;obtain⟨rfl,q⟩:=h;cases ry;refine is_none_gen (Em I q ?_);cases x <;> first
  | (cases rx;rfl)
  | (obtain⟨t,rfl⟩:=rx;rfl)
theorem JZ:jX X (compareOp .IsNot) (λx y H Q=>y=.non/\Q (.bl (!decide (x=.non))) H):=by
 intro ah s σ H x y v u Q I rx ry h;obtain⟨rfl,q⟩:=h;cases ry;refine isnot_none_gen (Em I q ?_);cases x <;> first
  | (cases rx;rfl)
  | (obtain⟨t,rfl⟩:=rx;rfl)
theorem J0{op:CmpOp}{r:R2}(ho:jX X (compareOp op) r)(ha:PE X a ta)(hb:PE X b tb)(hm:behindInMarks op b=false):PE X (.Compare a [op] [b] pos) (Zj r ta tb):=by intro ah s σ H Q I h;exact wpAny_Compare1 (Qo ha hb I h λv u s2 x y H2 I2 rx ry q=>ho ah s2 σ H2 x y v u Q I2 rx ry q) hm
def WD(t:TE):TT:=λσ H Q=>t σ H λx H'=>∃k,x=.bl k/\Q k H'
theorem J1{op:CmpOp}{r:R2}(ho:jX X (compareOp op) r)(ha:PE X a ta)(hb:PE X b tb)(hm:behindInMarks op b=false):PT X (.Compare a [op] [b] pos) (WD (Zj r ta tb)):=by
 intro ah s σ H Q I h;refine wpAny_isTrue_Compare1 (cF (ha ah s σ H _ I h) λv s1 ⟨x,H1,I1,r1,q1⟩=>cF (hb ah s1 σ H1 _ I1 q1) λu s2 ⟨y,H2,I2,r2,q2⟩=>
  cF (ho ah s2 σ H2 x y v u _ I2 r1 r2 q2) λc s3 ⟨z,H3,I3,r3,k,e,q3⟩=>?_) hm
 subst e;cases r3;exact mM ⟨H3,I3,q3⟩
def WK(K:Frag)(x:V)(H:Hp)(k:Bool):Prop:=
 match x with
 |.non=>k=false
 |.bl b=>k=b
 |.int i=>k=(i != 0)
 |.str y=>y.length<=sizeLine/\k=((y.length:Int) != 0)
 |.Ol y=>y.size<=sizeLine/\k=((y.size:Int) != 0)
 |.ref p=>(∃xs,bY K H p xs/\k=!xs.isEmpty)\/(∃xs,fy K H p xs/\k=!xs.isEmpty)\/∃eT,H p=some (.dK eT)/\k=!eT.isEmpty
 |_=>False
theorem xN{κ:Type}{eT:List (κ×V)}{vs:List (κ×Value)}(r:KV eT vs):(!vs.isEmpty)=!eT.isEmpty:=by cases r <;> rfl
theorem oA{xs:List V}{aA:List Value}(r:Vals xs aA):(!aA.toArray.isEmpty)=!xs.isEmpty:=by cases r <;> simp
theorem oB:(sizeLine:Nat)<2 ^ 63:=by rw[mI];decide
theorem Qw:TruR X (λx H Q=>∃k,WK X.K x H k/\Q k H):=by
 intro ah s σ H x v Q I rx h;obtain⟨k,e,q⟩:=h;have hl:=oB;have hs:sizeLine=16777216:=mI;cases x with
 |non=>cases rx;have e':k=false:=e;subst e';exact truthy_none ⟨H,I,q⟩
 |bl b=>cases rx;have e':k=b:=e;subst e';exact mM ⟨H,I,q⟩
 |int i=>obtain⟨t,rfl⟩:=rx;have e':k=(i != 0):=e;subst e';exact PySem.P.truthy_int ⟨H,I,q⟩
 |str y=>obtain⟨t,rfl⟩:=rx;obtain⟨hy,e'⟩:y.length<=sizeLine/\k=((y.length:Int) != 0):=e;subst e';exact PySem.P.truthy_str ⋯ ⟨H,I.tok _,q⟩
 |Ol y=>obtain⟨t,rfl⟩:=rx;obtain⟨hy,e'⟩:y.size<=sizeLine/\k=((y.size:Int) != 0):=e;subst e';exact PySem.W.truthy_bytes ⋯ ⟨H,I.tok _,q⟩
 |ref p=>
  cases rx;have e':(∃xs,bY X.K H p xs/\k=!xs.isEmpty)\/(∃xs,fy X.K H p xs/\k=!xs.isEmpty)\/∃eT,H p=some (.dK eT)/\k=!eT.isEmpty:=e;rcases e' with ⟨xs,hx,e'⟩ |⟨xs,hx,e'⟩ |⟨eT,hx,e'⟩
  . subst e';obtain⟨aA,r,pl,hz⟩:=I.list hx;have aJ:=r.length;exact wpAny_truthy_list pl.isList (by simp only[b6];lia) ⟨H,I.tok _,by rw[oA r];exact q⟩
  . subst e';obtain⟨aA,r,pl,hz⟩:=I.tuple hx;have aJ:=r.length;exact truthy_tuple pl (by simp only[b6];lia) ⟨H,I.tok _,by rw[oA r];exact q⟩
  . subst e';obtain⟨hz,hS,vs,r,m⟩:eT.length<=sizeLine/\(p==sysModules)=false/\∃vs,KV eT vs/\s.heap.DictOf (gP X.prog X.w) p vs:=I.hok p _ hx;have aJ:eT.length=vs.length:=Paired.length r;exact wpAny_truthy_dict hS m ⋯ ⟨H,I.tok _,by rw[xN r];exact q⟩
 |_=>exact (show False from e).elim
theorem En(ha:PE X a ta)(he:∀whole,isTrue a X.env whole=(do let v <- whole;standAt a.pos;holding [v] (truthy v))) :
  PT X a (λσ H Q=>ta σ H λx H'=>∃k,WK X.K x H' k/\Q k H'):=by
 intro ah s σ H Q I h;exact isTrue_plain (cF (ha ah s σ H _ I h) λv s1 ⟨x,H1,I1,r1,q1⟩=>Qw ah s1 σ H1 x v Q I1 r1 q1) (he _)
theorem vals1(r:Vals [x] us):∃u,us=[u]/\RelV x u:=by
 cases r with
 |cons r1 r2=>cases r2;exact⟨_,rfl,r1⟩
theorem vals2(r:Vals [x,y] us):∃u w',us=[u,w']/\RelV x u/\RelV y w':=by
 cases r with
 |cons r1 r2=>
  cases r2 with
  |cons r3 r4=>cases r4;exact⟨_,_,rfl,r1,r3⟩
theorem Az(hc:X.calm=true):dO X (.builtin "max") (λxs H Q=>∃i j,xs=[.int i,.int j]/\Q (.int (if j > i then j else i)) H):=by
 intro ah s σ H xs us Q I r h;obtain⟨i,j,rfl,q⟩:=h;obtain⟨u,w',rfl,⟨t,rfl⟩,⟨t',rfl⟩⟩:=vals2 r;refine max_two_ints (I.ok.hd hc) λh' tk k=>⟨_,H,I.kept k,?_,q⟩
 by_cases hj:j > i
 . rw[eP hj,eP hj];exact⟨_,rfl⟩
 . rw[eQ hj,eQ hj];exact⟨_,rfl⟩
theorem Ba(hc:X.calm=true):dO X (.builtin "min") (λxs H Q=>∃i j,xs=[.int i,.int j]/\Q (.int (if j<i then j else i)) H):=by
 intro ah s σ H xs us Q I r h;obtain⟨i,j,rfl,q⟩:=h;obtain⟨u,w',rfl,⟨t,rfl⟩,⟨t',rfl⟩⟩:=vals2 r;refine min_two_ints (I.ok.hd hc) λh' tk k=>⟨_,H,I.kept k,?_,q⟩
 by_cases hj:j<i
 . rw[eP hj,eP hj];exact⟨_,rfl⟩
 . rw[eQ hj,eQ hj];exact⟨_,rfl⟩
def LenV(K:Frag)(x:V)(H:Hp)(n:Nat):Prop:=
 match x with
 |.str y=>y.length<=sizeLine/\n=y.length
 |.Ol y=>y.size<=sizeLine/\n=y.size
 |.ref p=>(∃xs,bY K H p xs/\n=xs.length)\/∃xs,fy K H p xs/\n=xs.length
 |_=>False
theorem Eo:dO X (.builtin "len") (λxs H Q=>∃x n,xs=[x]/\LenV X.K x H n/\Q (.int n) H):=by
 intro ah s σ H xs us Q I r h;obtain⟨x,n,rfl,e,q⟩:=h;obtain⟨u,rfl,rx⟩:=vals1 r;have hl:=oB;have hs:sizeLine=16777216:=mI;cases x with
 |str y=>obtain⟨t,rfl⟩:=rx;obtain⟨hy,e'⟩:y.length<=sizeLine/\n=y.length:=e;subst e';exact len_str ⋯ ⟨.int _,H,I.tok _,⟨_,rfl⟩,q⟩
 |Ol y=>obtain⟨t,rfl⟩:=rx;obtain⟨hy,e'⟩:y.size<=sizeLine/\n=y.size:=e;subst e';exact PySem.W.len_bytes ⋯ ⟨.int _,H,I.tok _,⟨_,rfl⟩,q⟩
 |ref p=>
  cases rx;have e':(∃xs,bY X.K H p xs/\n=xs.length)\/∃xs,fy X.K H p xs/\n=xs.length:=e;rcases e' with ⟨xs,hx,e'⟩ |⟨xs,hx,e'⟩
  . subst e';obtain⟨aA,r',pl,hz⟩:=I.list hx;have aJ:=r'.length;exact Calls.call_len_list pl.isList (by simp only[b6];lia) ⟨.int xs.length,H,I.tok _,⟨_,by simp only[b6];rw[aJ]⟩,q⟩
  . subst e';obtain⟨aA,r',pl,hz⟩:=I.tuple hx;have aJ:=r'.length;exact len_tuple pl (by simp only[b6];lia) ⟨.int xs.length,H,I.tok _,⟨_,by simp only[b6];rw[aJ]⟩,q⟩
 |_=>exact (show False from e).elim
end
structure fX(k:Nat)(A:Around):Prop where
 hd:A.handled=none
 dp:A.depth+3 * k+5<recursionLimit
 un:A.units+16 * k+200<cLine
theorem fX.deeper(r:fX (k+1) A)(env:Env):fX k (A.deeper env):=
 ⟨r.hd,by have:=r.dp;show A.depth+1+3 * k+5<_;lia,by have:=r.un;show A.units+3+16 * k+200<_;lia⟩
theorem fX.depth{k:Nat}{A:Around}(r:fX k A):A.depth<recursionLimit:=by have:=r.dp;lia
theorem fX.units{k:Nat}{A:Around}(r:fX k A):A.units+64<cLine:=by have:=r.un;lia
theorem fX.Qx{k:Nat}{A:Around}(r:fX k A):A.units<cLine:=by have:=r.un;lia
def tNil:TA:=λ_ H Q=>Q [] H
noncomputable def WL(ta:TE)(tr:TA):TA:=λσ H Q=>ta σ H λx H1=>tr σ H1 λxs H2=>Q (x::xs) H2
section
variable{X:Cx}{e:Expr}{es:List Expr}{te:TE}{t:TA}{pos:Pos}
theorem oE:PA X [] tNil:=λ_ _ _ _ H Q I h=>Calls.spliced_nil ⟨[],H,I,.nil,h⟩
theorem iX(ha:PE X e te)(hr:PA X es t)(hs:starEach (e::es) X.env=(false,eval e X.env)::starEach es X.env:=by rfl):PA X (e::es) (WL te t):=by
 intro pos ah s σ H Q I h;rw[hs];show wpAny _ _ (spliced ((false,eval e X.env)::backTo pos (starEach es X.env))) _ _ s;refine Calls.spliced_cons (cF (ha ah s σ H _ I h) λu s1 ⟨x,H1,I1,r1,q1⟩=>?_)
 exact cF (hr pos ah s1 σ H1 _ I1 q1) λus s2 ⟨xs,H2,I2,r2,q2⟩=>⟨x::xs,H2,I2,.cons r1 r2,q2⟩
def tTup(t:TA):TE:=λσ H Q=>t σ H λxs H1=>xs.length<=sizeLine/\∀p,H1 p=none->Q (.ref p) (upd H1 p (.tup xs))
def WM(t:TA):TE:=λσ H Q=>t σ H λxs H1=>xs.length<=sizeLine/\∀p,H1 p=none->Q (.ref p) (upd H1 p (.lst xs))
theorem Ep{x1}(h:PA X es t):PE X (.Tuple es x1 pos) (tTup t):=by
 intro ah s σ H Q I hq;refine wpAny_Tuple_spliced (cF (h pos ah s σ H _ I hq) λus s1 ⟨xs,H1,I1,r,z,q⟩=>⟨by rw[<- r.length];exact z,?_⟩)
 have hf:H1 s1⁻¹=none:=I1.hok.fresh (d5 _);refine⟨.ref s1⁻¹,upd H1 s1⁻¹ (.tup xs),I1.laid (t':=s1.toks) (λb u e=>b7 _ e) (d5 _) ?_,rfl,q _ hf⟩
 exact⟨z,us,r,⟨_,eA _ rfl,⟨rfl,_,rfl⟩,rfl⟩⟩
theorem Er(h:PA X es t):PE X (.List es pos) (WM t):=by
 intro ah s σ H Q I hq;refine wpAny_List_spliced (cF (h pos ah s σ H _ I hq) λus s1 ⟨xs,H1,I1,r,z,q⟩=>⟨by rw[<- r.length];exact z,?_⟩)
 have hf:H1 s1⁻¹=none:=I1.hok.fresh (d5 _);refine⟨.ref s1⁻¹,upd H1 s1⁻¹ (.lst xs),I1.laid (t':=s1.toks) (λb u e=>b7 _ e) (d5 _) ?_,rfl,q _ hf⟩
 exact⟨z,us,0,r,eA _ rfl⟩
end
abbrev Sp:=List V->Hp->VK->XK->Prop
abbrev Es:=List Env->Hp->Shared->XK->Value->Shared->Prop
structure J2(P:Program)(w:World)(K:Frag)(mg:Str->Option Value)(base:Heap)(A:Around)(outer:List Env)(s:Shared)(H:Hp):Prop where
 frames:A.frames=some outer
 mod:Mod K mg base
 bs:∀b o,base.get? b=some o->s.heap.get? b=some o/\H b=none
 JD:base.objs.size<=s⁻¹
 nI:s.heap.FunFrames base outer
 Qc:∀b∈frs outer,H b=none
 hok:oq P w H s.heap
 bare:AllBare s.gens
def CE(outer:List Env)(P:Program)(w:World)(H:Hp)(s:Shared)(Q:VK)(u:Value)(s':Shared):Prop:=
 ∃v H',s'.os=s.os/\AllBare s'.gens/\Un (frs outer) [] H H' s.heap s'.heap/\oq P w H' s'.heap/\RelV v u/\Q v H'
def CR(CX:Es)(outer:List Env)(P:Program)(w:World)(H:Hp)(s:Shared)(Q:VK)(E:XK)(r:Result)(s':Shared):Prop:=
 match r with
 |.ok (.ret u)=>CE outer P w H s Q u s'
 |.ok _=>False
 |.error e=>CX outer H s E e s'
structure qF(P:Program)(w:World)(K:Frag)(mg:Str->Option Value)(base:Heap)(CX:Es)(k:Nat)(f:Addr)(fd:FuncData)(ps:List Str)(sp:Sp):Prop where
 len:∀vs H Q E,sp vs H Q E->vs.length=ps.length
 run:∀(A:Around) (outer:List Env) (s:Shared) (H:Hp) (args:Args) (us:List Value) (vs:List V) (Q:VK) (E:XK),fX k A->J2 P w K mg base A outer s H->BindsTo s fd args (ps.zip us)->Vals vs us->sp vs H Q E->
  codeAny (model P w) A (.call (.ref f) args) (CR CX outer P w H s Q E) s
section
variable{X:Cx}{ah:List (Addr×Obj)}{σ:St}{H:Hp}{s s':Shared}
theorem Inv.env0(I:Inv X ah σ H s):J2 X.prog X.w X.K X.mg X.base X.A X.stack s H:=
 ⟨I.ok.frames,I.ok.mod,I.bs,hV I.ok.JD I.sz,I.stack,I.zb,I.hok,I.bare⟩
theorem Inv.after(I:Inv X ah σ H s)(h:CE X.stack X.prog X.w H s Q u s'):EP X ah σ Q u s':=by obtain⟨v,H',os,bare,un,hok,r,q⟩:=h;obtain⟨hh,g,d,t,os'⟩:=s';obtain rfl:os'=s.os:=os;exact⟨v,H',I.call (h':=hh) (g':=g) (d':=d) (t':=t) (ch:=[]) un hok bare (λb z=>absurd z ⋯),r,q⟩
end
noncomputable def WN(sp:Sp)(fG:List V)(E:XK)(t:TA):TE:=λσ H Q=>t σ H λvs H1=>sp (vs++fG) H1 Q E
def Binds(K:Frag)(fd:FuncData)(ps:List Str)(ds:List Value):Prop:=
 ∀(s:Shared) (us:List Value),K.In s.heap->(us++ds).length=ps.length->BindsTo s fd ⟨us,[]⟩ (ps.zip (us++ds))
theorem Binds.all{K:Frag}{fd:FuncData}{ps:List Str}(h:∀us:List Value,us.length=ps.length->bindArgs fd ⟨us,[]⟩=pure (ps.zip us)):Binds K fd ps []:=λs us _ hl=>by
 rw[o4]at hl ⊢
 exact .of_eq (h us hl)
def Passes(CX:Es)(X:Cx)(E:XK):Prop:=∀(ah:List (Addr×Obj)) (σ:St) (H:Hp) (s:Shared) (e:Value) (s':Shared),Inv X ah σ H s->CX X.stack H s E e s'->X.xe e s'
section
variable{X:Cx}{CX:Es}{k:Nat}{f C:Addr}{fd:FuncData}{ps:List Str}{sp:Sp}{fG:List V}{ds:List Value}{E:XK}{x m:Str}{p pos eo:Pos}{e o:Expr}{es:List Expr}{ta:TE}{t:TA}
theorem Qy{ah:List (Addr×Obj)}{σ:St}{H:Hp}{s:Shared}{Q:VK}{us:List Value}{vs:List V}(F:qF X.prog X.w X.K X.mg X.base CX k f fd ps sp)(hr:fX k X.A)(hb:Binds X.K fd ps ds)(hd:Vals fG ds)(hx:Passes CX X E)
  (I:Inv X ah σ H s) (r:Vals vs us) (h:sp (vs++fG) H Q E):wpAny (model X.prog X.w) X.A (call (.ref f) us) (EP X ah σ Q) X.xe s:=by
 have r2:Vals (vs++fG) (us++ds):=r.append hd;have hl:(us++ds).length=ps.length:=by rw[<- r2.length];exact F.len _ _ _ _ h
 refine wpAny_call (codeAny_mono (F.run X.A X.stack s H ⟨us,[]⟩ (us++ds) (vs++fG) Q E hr I.env0 (hb s us I.uS hl) r2 h) λr s' hq=>?_)
 cases r with
 |error e=>exact hx ah σ H s e s' I hq
 |ok fl=>
  cases fl with
  |ret u=>exact I.after hq
  |next=>exact False.elim hq
  |brk=>exact False.elim hq
  |cont=>exact False.elim hq
theorem J3(F:qF X.prog X.w X.K X.mg X.base CX k f fd ps sp)(hr:fX k X.A)(hg:Gl X x)(hm:X.mg x=some (.ref f))(hk:PySem.W.keepIn X.K (.ref f)=true)(hb:Binds X.K fd ps ds)(hd:Vals fG ds)(hx:Passes CX X E)
  (ha:PA X (e::es) t) (Al:(x==("__debug__":Str))=false:=by decide) (he:starEach (e::es) X.env=(false,eval e X.env)::starEach es X.env:=by rfl) (jw:(backTo pos (starEach es X.env)).any (·.1)=false:=by rfl) :
  PE X (.Call (.Name x p) (e::es) [] pos) (WN sp fG E t):=by
 intro ah s σ H Q I h;refine AY (zf I hg hm ?_ Al);refine PySem.W.callWith_K (h₀:=X.base) I.ok.mod.Z3 hk (cF (ha pos ah s σ H _ I h) λus s1 ⟨vs,H1,I1,r,q⟩=>⟨I1.uS,?_⟩) he jw
 exact Qy F hr hb hd hx I1 r q
end
structure fS(N P:List Str)(sc:Scope):Prop where
 kind:sc.kind=.function
 co:sc.isCoroutine=false
 gen:sc.isGenerator=false
 nd:N.Nodup
 pre:N.take P.length=P
 par:∀x∈P,sc.names.lookup x=some .local\/sc.names.lookup x=some .cell
 Qz:∀y∈sc.names,y.2≠.free
theorem rz{kindOf:Str->Option NameKind}{x:Str}:∀{binds:List (Str×Value)}{m:Str->Option Value},(∀v,(x,v)∉binds)->bindL kindOf binds m x=m x
 | [],_,_=>rfl
 | (n,v)::r,m,h=>by
  unfold bindL;rw[rz λw hw=>h w (aS _ hw)]
  split
  .
   have:x≠n:=by rintro rfl;exact h v bP
   simp[this]
  . rfl
theorem rA{kindOf:Str->Option NameKind}{x:Str}:∀{binds:List (Str×Value)}{m:Str->Option Value},(∀v,(x,v)∉binds)->bindC kindOf binds m x=m x
 | [],_,_=>rfl
 | (n,v)::r,m,h=>by
  unfold bindC;rw[rA λw hw=>h w (aS _ hw)]
  split
  . rfl
  .
   have:x≠n:=by rintro rfl;exact h v bP
   simp[this]
theorem rB{kindOf:Str->Option NameKind}{x:Str}{v:Value}:∀{P:List Str}{vs:List Value}{i:Nat}{m:Str->Option Value},P.Nodup->P[i]?=some x->vs[i]?=some v->kindOf x=some .local->
  bindL kindOf (P.zip vs) m x=some v
 | [],_,_,_,_,h,_,_=>by simp at h
 |_::_,[],_,_,_,_,h,_=>by simp at h
 |p::P,w::vs,0,m,nd,h1,h2,hk=>by
  simp at h1 h2;subst h1;subst h2;show bindL kindOf ((p,w)::P.zip vs) m p=_;unfold bindL;rw[rz λv hv=>(fN.mp nd).1 (B9 hv).1,eP hk]
  simp
 |p::P,w::vs,i+1,m,nd,h1,h2,hk=>by
  show bindL kindOf ((p,w)::P.zip vs) m x=_;unfold bindL;exact rB (i:=i) (fN.mp nd).2 (by simpa using h1) (by simpa using h2) hk
theorem rC{kindOf:Str->Option NameKind}{x:Str}{v:Value}:∀{P:List Str}{vs:List Value}{i:Nat}{m:Str->Option Value},P.Nodup->P[i]?=some x->vs[i]?=some v->kindOf x≠some .local->
  bindC kindOf (P.zip vs) m x=some v
 | [],_,_,_,_,h,_,_=>by simp at h
 |_::_,[],_,_,_,_,h,_=>by simp at h
 |p::P,w::vs,0,m,nd,h1,h2,hk=>by
  simp at h1 h2;subst h1;subst h2;show bindC kindOf ((p,w)::P.zip vs) m p=_;unfold bindC;rw[rA λv hv=>(fN.mp nd).1 (B9 hv).1,eQ hk]
  simp
 |p::P,w::vs,i+1,m,nd,h1,h2,hk=>by
  show bindC kindOf ((p,w)::P.zip vs) m x=_;unfold bindC;exact rC (i:=i) (fN.mp nd).2 (by simpa using h1) (by simpa using h2) hk
noncomputable def start(N:List Str)(vs:List V):St:=vs.map some++List.replicate (N.length - vs.length) none
noncomputable def uY(CX:Es)(P:Program)(w:World)(K:Frag)(mg:Str->Option Value)(base:Heap)(N:List Str)(qual:Str)(scope:Scope)(f:Addr)(cd:Value)(A:Around)(outer:List Env)(s:Shared)(H:Hp)(E:XK):Cx where
 prog:=P
 w:=w
 K:=K
 mg:=mg
 base:=base
 A:=A.deeper (envOfC qual scope s⁻¹ f cd)
 N:=N
 s₀:=s
 H₀:=H
 env:=envOfC qual scope s⁻¹ f cd
 outer:=outer
 stack:=envOfC qual scope s⁻¹ f cd::outer
 ex:=[]
 calm:=true
 fn:=λ_=>true
 pn:=[]
 xe:=λe s'=>wpAny (model P w) (A.deeper (envOfC qual scope s⁻¹ f cd)) (leaving (envOfC qual scope s⁻¹ f cd) e) (λ_ s''=>CX outer H s E e s'') (λe' s''=>CX outer H s E e' s'') s'
theorem uZ{sc:Scope}{n:Nat}{x:Str}(h:sc.names.lookup x=some .cell):∃c,(cellsFrom n sc.names []).lookup x=some c:=by have q:=PySem.W.cellsFrom_some sc.names n [] (.inl h);exact Option.isSome_iff_exists.mp q
theorem Bb{CX:Es}{P:Program}{w:World}{K:Frag}{mg:Str->Option Value}{base:Heap}{N ps:List Str}{qual:Str}{scope:Scope}{f:Addr}{cd:Value}{A:Around}{outer:List Env}{s s1:Shared}{H:Hp}{E:XK}{us:List Value}{vs:List V}
  (S:fS N ps scope) (hd:A.handled=none) (e0:J2 P w K mg base A outer s H) (hl:vs.length=ps.length) (r:Vals vs us)
  (x:InCallC s s⁻¹ (bindL (envOfC qual scope s⁻¹ f cd).kindOf (ps.zip us) λ_=>none) (cellsFrom (s⁻¹+1) scope.names []) (bindC (envOfC qual scope s⁻¹ f cd).kindOf (ps.zip us) λ_=>none) s1) :
  Inv (uY CX P w K mg base N qual scope f cd A outer s H E) [] (start N vs) H s1:=by
 have jw:ps.length<=N.length:=by have:=congrArg List.length S.pre;rw[rV]at this;lia
 obtain⟨h1,tk,rfl,hk⟩:=x.done;have WQ:∀b:Addr,b∉(uY CX P w K mg base N qual scope f cd A outer s H E).ex:=λb z=>absurd (show b∈([]:List Addr)from z) ⋯
 refine⟨⟨e0.mod,S.kind,rfl,rfl,d5 _,λy z c h1 h2=>?_,λy hy=>?_,λy c _ h=>?_,λ_=>hd,Around.frames_deeper e0.frames,.inr ⟨rfl,rfl⟩,λb z=>absurd z (WQ b),e0.bs,e0.JD,λb _ _=>WQ b,λb z=>absurd z (WQ b),e0.nI,e0.Qc⟩,
  rfl,e0.bare,Un.kept hk,⟨_,x.toInCall.ns,λi y v h1 h2 h3=>?_⟩,λy c h=>⟨_,x.cell y c h⟩,e0.hok.fresh (d5 _),λy c h=>?_,λp hp=>absurd (show p∈([]:List (Addr×Obj))from hp) ⋯,e0.hok.kept hk,?_⟩
 . exact name_of_addr x.apart (y4 h1) (y4 h2)
 .
  have hy:scope.names.lookup y=some .cell\/scope.names.lookup y=some .free:=hy;rcases hy with hy |hy
  . exact uZ hy
  . exact absurd rfl (S.Qz _ (y4 hy))
 . exact Nat.le_of_lt (x.above y c (y4 h))
 .
  have hi:i<vs.length:=by
   unfold start at h2;by_cases hi:i<vs.length
   . exact hi
   .
    rw[eC (by simpa using hi)]at h2
    rw[List.getElem?_replicate]at h2;split at h2 <;> cases h2
  have ha:vs[i]?=some v:=by
   unfold start at h2;rw[dA (by simpa using hi),nE]at h2
   cases e:vs[i]? with
   |none=>rw[e]at h2;cases h2
   |some a=>rw[e]at h2;cases h2;rfl
  obtain⟨u,hu,rv⟩:=r.get ha;have hp:ps[i]?=some y:=by rw[<- S.pre,oQ ⋯];exact h1
  have ndP:ps.Nodup:=by rw[<- S.pre];exact S.nd.sublist (List.take_sublist _ _)
  refine⟨u,rv,?_⟩;rcases S.par y (i5 hp)with k |k
  . exact .inl ⟨k,rB ndP hp hu k⟩
  .
   obtain⟨c,e⟩:=uZ (n:=s⁻¹+1) k;refine .inr ⟨.inl k,c,e,?_⟩;have q:=x.cell y c e;rw[rC ndP hp hu (by show scope.names.lookup y≠_;rw[k];decide)]at q
   exact q
 . exact e0.hok.fresh (Nat.le_of_lt (x.above y c (y4 h)))
 . unfold start;show _=N.length;rw[dL,dC,i8];lia
theorem WR{CX:Es}{P:Program}{w:World}{K:Frag}{mg:Str->Option Value}{base:Heap}{k:Nat}{f:Addr}{name qual:Str}{params:Arguments}{body:List Stmt}{scope:Scope}{dV kV doc pm fW ct oc:Value}{an od:Option Addr}
  {osl:Array (Option Value)}{N ps:List Str}{sp:Sp} (lk:K.lookup f=some ⟨oc,od,.func (PySem.W.fnOf name qual params body scope dV kV doc pm an fW ct),osl⟩) (eS:PySem.W.codeIn K fW qual=true) (S:fS N ps scope)
  (len:∀vs H Q E,sp vs H Q E->vs.length=ps.length)
  (hbody:∀(A:Around) (outer:List Env) (s:Shared) (H:Hp) (vs:List V) (Q:VK) (E:XK),fX k (A.deeper (envOfC qual scope s⁻¹ f fW))->sp vs H Q E->
   ∃t,uL (uY CX P w K mg base N qual scope f fW A outer s H E) body t/\t { nx:=λ_ H'=>Q .non H',rt:=Q} (start N vs) H) :
  qF P w K mg base CX (k+1) f (PySem.W.fnOf name qual params body scope dV kV doc pm an fW ct) ps sp:=by
 refine⟨len,λA outer s H args us vs Q E hr e0 hb r Vm=>?_⟩
 have hl:=len _ _ _ _ Vm;have KX:K.In s.heap:=e0.mod.Z3.keeps λb o e=>(e0.bs b o e).1
 have lim:s.heap.NoLimit:=e0.mod.nolimit.keeps λb o e=>(e0.bs b o e).1
 have hkind:∀y∈ps.zip us,scope.names.lookup y.1=some .local\/(scope.names.lookup y.1=some .cell/\((cellsFrom (s⁻¹+1) scope.names []).lookup y.1).isSome=true):=λ⟨n,v⟩ hy=>by
  rcases S.par n (B9 hy).1 with q |q
  . exact .inl q
  . exact .inr ⟨q,PySem.W.cellsFrom_some _ _ _ (.inl q)⟩
 refine codeAny_call_function hr.depth (KX _ _ lk) rfl S.co S.gen rfl (PySem.W.codeRec_of KX eS) (hb _ _ _ _ ?_);refine wpAny_newFunctionEnv_cells S.kind hkind λenv he s1 x=>?_
 subst he;refine⟨lim.keeps x.toInCall.keep,codeAny_func ?_⟩;obtain⟨t,ht,hq⟩:=hbody A outer s H vs Q E (hr.deeper _) Vm;have I:Inv (uY CX P w K mg base N qual scope f fW A outer s H E) [] (start N vs) H s1:=Bb S hr.hd e0 hl r x;refine mE (ht [] s1 (start N vs) H _ I hq) (λfl s' hs=>?_) λe s' hs=>hs
 have fin:∀{σ':St}{H':Hp}{v:V}{u:Value},Inv (uY CX P w K mg base N qual scope f fW A outer s H E) [] σ' H' s'->RelV v u->Q v H'->CE outer P w H s Q u s':=
  λ{σ' H' v u} J rv q=>⟨v,H',J.os,J.bare,J.base,J.hok,rv,q⟩
 cases fl with
 |ret u=>obtain⟨v,σ',H',J,rv,q⟩:=hs;exact fin J rv q
 |next=>obtain⟨σ',H',J,q⟩:=hs;exact fin (v:=V.non) (u:=Value.none) J rfl q
 |brk=>obtain⟨_,_,_,q⟩:=hs;exact False.elim q
 |cont=>obtain⟨_,_,_,q⟩:=hs;exact False.elim q
section
variable{X:Cx}{x:Str}{p pos:Pos}{e:Expr}{es:List Expr}{t:TA}{id T:String}{r:List V->Hp->VK->Prop}
noncomputable def tCB(r:List V->Hp->VK->Prop)(t:TA):TE:=λσ H Q=>t σ H λvs H1=>r vs H1 Q
theorem u5(hc:dO X (.builtin id) r)(hg:Gl X x)(hm:X.mg x=none)(hv:bootBuiltins x=some (.builtin id))(ha:PA X (e::es) t)(hn:x≠ "__name__" :=by decide)(Al:(x==("__debug__":Str))=false:=by decide)
  (he:starEach (e::es) X.env=(false,eval e X.env)::starEach es X.env:=by rfl) (jw:(backTo pos (starEach es X.env)).any (·.1)=false:=by rfl):PE X (.Call (.Name x p) (e::es) [] pos) (tCB r t):=by
 intro ah s σ H Q I h;refine AY (fF I hg hm hv ?_ hn Al);exact PyProof.Rows.callWith_builtin1 (cF (ha pos ah s σ H _ I h) λus s1 ⟨vs,H1,I1,r1,q1⟩=>hc ah s1 σ H1 vs us Q I1 r1 q1) he jw
theorem Bc(hc:dO X (.type T) r)(hg:Gl X x)(hm:X.mg x=none)(hv:bootBuiltins x=some (.type T))(ha:PA X (e::es) t)(hn:x≠ "__name__" :=by decide)(Al:(x==("__debug__":Str))=false:=by decide)
  (he:starEach (e::es) X.env=(false,eval e X.env)::starEach es X.env:=by rfl) (jw:(backTo pos (starEach es X.env)).any (·.1)=false:=by rfl):PE X (.Call (.Name x p) (e::es) [] pos) (tCB r t):=by
 intro ah s σ H Q I h;refine AY (fF I hg hm hv ?_ hn Al);exact l9 (cF (ha pos ah s σ H _ I h) λus s1 ⟨vs,H1,I1,r1,q1⟩=>hc ah s1 σ H1 vs us Q I1 r1 q1) he jw
end
end L2
namespace HT
open PySem PyProof.Rows
noncomputable def lexLt:List Int->List Int->Bool
 | [],[]=>false
 | [],_::_=>true
 |_::_,[]=>false
 |x::xs,y::ys=>if x=y then lexLt xs ys else decide (x<y)
theorem cH(x y:Int)(xs ys:List Int):lexLt (x::xs) (y::ys)=if x=y then lexLt xs ys else decide (x<y):=rfl
theorem qG:lexLt [] []=false:=rfl
theorem oF(y:Int)(ys:List Int):lexLt [] (y::ys)=true:=rfl
theorem oG(x:Int)(xs:List Int):lexLt (x::xs) []=false:=rfl
theorem u6(A:Around)(s:Shared)(a:Int)(t:Tok)(c:Int)(u:Tok):∃e,SeqAt.EqAt A s (.int a t) (.int c u) e/\(e=true ↔ a=c):=
 ⟨(a==c),SeqAt.EqAt.int_int a t c u,by simp⟩
theorem u9(A:Around)(s:Shared)(a:Int)(t:Tok)(c:Int)(u:Tok)(prog:Program)(w:World)(E:Value->Shared->Prop)(Q:Value->Shared->Prop)(h:Q (.bool (decide (a<c))) s) :
  wpAny (model prog w) A (richCompare .Lt (.int a t) (.int c u)) Q E s:=
 (PyProof.Rows.lt_int h:wpAny (model prog w) A (compareOp .Lt (.int a t) (.int c u)) Q E s)
section
open PySem.SeqAt
open PySem.AutoSeq1 (wpAny_loadPart')
open PySem.MeetsSeq PySem.MeetsSeq2 PySem.MeetsSeq3
theorem qH(l b:Addr)(ao items2:Array Value)(n n2:Nat)(dd dd2:Option Addr)(sl sl2:Array (Option Value))(ns ms:List Int)(hi:IntsAre ao.toList ns)(hj:IntsAre items2.toList ms) :
  Meets (Builtin.«tuple.__lt__» ⟨[.ref l,.ref b],[]⟩)
   (λ_ R s=>s.heap.get? l=some { cls:=.type "tuple",dict:=dd,data:=.seq ao n,slots:=sl}/\s.heap.get? b=some { cls:=.type "tuple",dict:=dd2,data:=.seq items2 n2,slots:=sl2}/\
    R (.ok (.ret (.bool (lexLt ns ms)))) s):=
 .of_wp λprog w A R s h=>by
  obtain⟨hp,g,d,tk,os⟩:=s;obtain⟨hl,hb,h⟩:=h;have f2:=AutoSeq1.sub_tuple_tuple;have z1:ao.size=ns.length:=by rw[<- hi.length];simp
  have z2:items2.size=ms.length:=by rw[<- hj.length];simp
  wp_walk using AD hl,AD hb,wpAny_forIn_list _ (λrest b s'=>b.1=none/\s'=⟨hp,g,d,tk,os⟩/\∃(vs ws:List Value) (ns' ms':List Int),rest=vs.zip ws/\
   IntsAre vs ns'/\IntsAre ws ms'/\ns'.length+items2.size=ms'.length+ao.size/\R (.ok (.ret (.bool (lexLt ns' ms')))) ⟨hp,g,d,tk,os⟩) _
  case turn=>
   rintro⟨y,x⟩ rest b s' ⟨hb',rfl,vs,ws,ns',ms',hz,hvi,hwi,aJ,hR⟩;cases hvi with
   |nil=>rw[BD]at hz;cases hz
   |cons a t hvi'=>
    cases hwi with
    |nil=>rw[List.zip_nil_right]at hz;cases hz
    |cons c u hwi'=>
     rw[oD]at hz;injection hz with hyx hrest;injection hyx with hy hx;subst hy hx;rw[cH]at hR;simp only[eI]at aJ;obtain⟨e,he,hiff⟩:=u6 A.in1 ⟨hp,g,d,tk,os⟩ a t c u;refine a9 (he prog w _ _ ?_);cases e with
     |true=>
      rw[eP (hiff.mp rfl)]at hR
      wp_walk
      exact⟨rfl,rfl,_,_,_,_,hrest,hvi',hwi',by lia,hR⟩
     |false=>
      rw[eQ (λq=>absurd (hiff.mpr q) hU)]at hR
      have hri:=u9 A.in1 ⟨hp,g,d,tk,os⟩ a t c u prog w
      wp_walk using hri
      exact⟨_,rfl,by simpa using hR⟩
  case fin=>
   rintro⟨b1,b2⟩ s' ⟨hb',rfl,vs,ws,ns',ms',hz,hvi,hwi,aJ,hR⟩;simp only at hb';subst hb';have hv:lexLt ns' ms'=decide (ao.size<items2.size):=by
    cases hvi with
    |nil=>
     cases hwi with
     |nil=>simp only[tS]at aJ;rw[qG];exact (l6 ⋯).symm
     |cons c u hw=>simp only[tS,eI]at aJ;rw[oF];exact (lL ⋯).symm
    |cons a t hv=>
     cases hwi with
     |nil=>simp only[tS,eI]at aJ;rw[oG];exact (l6 ⋯).symm
     |cons c u hw=>rw[oD]at hz;cases hz
   rw[hv]at hR
   wp_walk
   exact⟨_,rfl,by simpa [Builtin.Tuple.tupleCompareSizes]using hR⟩
  case h=>exact⟨rfl,rfl,ao.toList,items2.toList,ns,ms,rfl,hi,hj,by lia,h⟩
end
section
variable{prog:Program}{w:World}{A:Around}{E:Value->Shared->Prop}{s:Shared}
theorem jC(hl:IsTup s.heap l ao)(hb:IsTup s.heap b items2)(hi:IntsAre ao.toList ns)(hj:IntsAre items2.toList ms)
  (hu:A.units<cLine) (h:Q (.bool (lexLt ns ms)) s):wpAny (model prog w) A (compareOp .Lt (.ref l) (.ref b)) Q E s:=by
 obtain⟨⟨cls,dd,data,sl⟩,ho,hc,n,hd⟩:=id hl;obtain⟨⟨QB,dd2,data2,sl2⟩,ho2,hc2,n2,hd2⟩:=id hb;simp only at hc hd hc2 hd2;subst hc hd hc2 hd2;exact richCompare_meets_room (op:=.Lt) ⟨_,ho,rfl⟩ ⟨_,ho2,rfl⟩ PySem.F.slot_tuple_lt PySem.F.entry_tuple_lt (PySem.F.args_tuple_lt_2 _ _) (qH l b ao items2 n n2 dd dd2 sl sl2 ns ms hi hj)
  ⟨ho,ho2,show Value.bool (lexLt ns ms)≠Value.notImplemented/\Q (.bool (lexLt ns ms)) s from⟨(λx=>nomatch x),h⟩⟩ hu
theorem J4(ht:IsTup s.heap t vs.toArray)(hb:IsTup s.heap b ws.toArray)(hv:vs≠[])
  (h1:ws=[]->Q (.ref t) s) (h2:ws≠[]->Q (.ref s⁻¹) { s with heap:=s.heap.push { cls:=.type "tuple",data:=.seq (vs++ws).toArray}})
  (DY:vs.length+ws.length<=sizeLine):wpAny (model prog w) A (binaryOp .Add (.ref t) (.ref b)) Q E s:=by
 obtain⟨⟨cls,dd,data,sl⟩,ho,hc,n,hd⟩:=id ht;obtain⟨⟨QB,dd2,data2,sl2⟩,ho2,hc2,n2,hd2⟩:=id hb;simp only at hc hd hc2 hd2;subst hc hd hc2 hd2;have e:vs.toArray++ws.toArray=(vs++ws).toArray:=by simp
 by_cases hw:ws=[]
 .
  exact concat_meets ⟨_,ho,rfl⟩ ⟨_,ho2,rfl⟩ noFill_tuple_add seq_tuple_add BA AZ (AV _ _)
   (tuple_addW1 t b vs.toArray ws.toArray n n2 dd dd2 sl sl2 (by simpa using hv) (by simp[hw])) ⟨ho,ho2,h1 hw⟩
 .
  refine concat_meets ⟨_,ho,rfl⟩ ⟨_,ho2,rfl⟩ noFill_tuple_add seq_tuple_add BA AZ (AV _ _)
   (tuple_addW2 t b vs.toArray ws.toArray n n2 dd dd2 sl sl2 (by simpa using hv) (by simpa using hw) (by rw[b6,b6];exact DY)) ⟨ho,ho2,?_⟩
  rw[e];exact h2 hw
noncomputable def cG(n d:Nat):Option Int->Nat
 |none=>d
 |some v=>if v<0 then (v+(n:Int)).toNat else min v.toNat n
theorem QC(n d:Nat)(hd:d<=n)(o:Option Int):cG n d o<=n:=by
 cases o with
 |none=>exact hd
 |some v=>
  show (if v<0 then (v+(n:Int)).toNat else min v.toNat n)<=n
  by_cases hv:v<0
  . rw[eP hv];lia
  . rw[eQ hv];exact Nat.min_le_right _ _
theorem zl(v:Int)(n d:Nat):(if v<0 then max (v+(n:Int)) 0 else min v (n:Int))=((cG n d (some v):Nat):Int):=by
 show (if v<0 then max (v+(n:Int)) 0 else min v (n:Int))=(((if v<0 then (v+(n:Int)).toNat else min v.toNat n):Nat):Int)
 by_cases hv:v<0
 . simp only[eP hv];lia
 . simp only[eQ hv];lia
theorem xO(lo hi:Option Int)(n:Nat):Builtin.Slice.sliceAdjust lo hi 1 (n:Int)=(((cG n 0 lo:Nat):Int),((cG n n hi:Nat):Int)):=by
 have h1 : ¬ ((1:Int)<0):=by lia
 unfold Builtin.Slice.sliceAdjust;simp only[h1,Co];refine Prod.ext ?_ ?_
 .
  cases lo with
  |none=>rfl
  |some v=>exact zl v n 0
 .
  cases hi with
  |none=>rfl
  |some v=>exact zl v n n
theorem xP(i j:Nat):Builtin.Slice.slicePlaces (i:Int) (j:Int) 1=j - i:=by
 unfold Builtin.Slice.slicePlaces;have h1:(1:Int) > 0:=by lia
 simp only[h1,u7,Int.ediv_one];split <;> lia
theorem oH(p:IsPart v o)(h:Q o s):wpAny (model prog w) A (Builtin.Slice.slicePartIndex v) Q E s:=by
 cases p with
 |none=>exact slicePart_none h
 |int i t=>exact slicePart_int h
theorem gq{sl:Addr}{vl vu:Value}{lo hi:Option Int}{n:Nat}{Q:Int×Int×Nat->Shared->Prop}(hs:s.heap.IsSliceOf sl vl vu .none)(pl:IsPart vl lo)(pu:IsPart vu hi)
  (h:Q (((cG n 0 lo:Nat):Int),1,cG n n hi - cG n 0 lo) s):wpAny (model prog w) A (Builtin.Slice.sliceApplied (.ref sl) (pure (n:Int))) Q E s:=by
 obtain⟨os,hos,hcs,hds⟩:=id hs;unfold Builtin.Slice.sliceApplied Builtin.Slice.sliceFields;refine a9 (a9 (BE hos hds (x:=vl) rfl (a9 (BE hos hds (x:=vu) rfl (a9 (BE hos hds (x:=.none) rfl (d6 ?_)))))));refine a9 (slicePart_none ?_);show wpAny _ _ (if ((1:Int)==0)=true then _ else _) _ _ s
 rw[eQ ⋯];refine a9 (oH pl (a9 (oH pu (a9 (d6 ?_)))));show wpAny _ _ (match Builtin.Slice.sliceAdjust lo hi 1 (n:Int)with | (lo,hi)=>pure (lo,(1:Int),Builtin.Slice.slicePlaces lo hi 1)) _ _ s
 rw[xO lo hi n];show wpAny _ _ (pure (((cG n 0 lo:Nat):Int),(1:Int),Builtin.Slice.slicePlaces ((cG n 0 lo:Nat):Int) ((cG n n hi:Nat):Int) 1)) _ _ s;rw[xP];exact d6 h
theorem Et(xs:Array Value)(i k:Nat):((List.range k).filterMap λ(m:Nat)=>xs[((i:Int)+(m:Int) * 1).toNat]?).toArray=((xs.toList.drop i).take k).toArray:=by
 have e:(λ(m:Nat)=>xs[((i:Int)+(m:Int) * 1).toNat]?)=λm=>xs[i+m]?:=by
  funext m
  have:((i:Int)+(m:Int) * 1).toNat=i+m:=by lia
  rw[this]
 rw[e];have:=pick_run xs i k;rw[List.filterMap_map]at this;have e2:((λx=>xs[x]?) ∘ λx=>i+x)=λm=>xs[i+m]?:=rfl
 rw[e2]at this;rw[this]
theorem j6{t sl:Addr}{ao:Array Value}{vl vu:Value}{lo hi:Option Int}{Q:Value->Shared->Prop}(ht:IsTup s.heap t ao)(hs:s.heap.IsSliceOf sl vl vu .none)(pl:IsPart vl lo)(pu:IsPart vu hi)
  (hw : ¬ (cG ao.size 0 lo=0/\cG ao.size ao.size hi=ao.size))
  (h:Q (.ref s⁻¹) { s with heap:=s.heap.push { cls:=.type "tuple",data:=.seq ((ao.toList.drop (cG ao.size 0 lo)).take (cG ao.size ao.size hi - cG ao.size 0 lo)).toArray}})
  (DY:ao.size<=sizeLine):wpAny (model prog w) A (getItem (.ref t) (.ref sl)) Q E s:=by
 have zm:sizeOk (.seq ((ao.toList.drop (cG ao.size 0 lo)).take (cG ao.size ao.size hi - cG ao.size 0 lo)).toArray):=by show ((ao.toList.drop (cG ao.size 0 lo)).take (cG ao.size ao.size hi - cG ao.size 0 lo)).toArray.size<=sizeLine;rw[b6,rV,List.length_drop,nV];lia
 have hj:cG ao.size ao.size hi<=ao.size:=QC _ _ (d5 _) hi;obtain⟨os,hos,hcs,hds⟩:=id hs;have hTs:s.TypeIs (.ref sl) "slice" :=⟨os,hos,hcs⟩;unfold getItem
 try with_reducible refine kA ?_
 first |refine a9 (d6 ?_) |skip
 refine a9 (wpAny_sequenceKey ht.typeIs ⋯ ?_);refine a9 (y6 (name:=Str.ofString "__getitem__") ht.typeIs sT
  (An sT ht.typeIs entry_tuple_getitem ?_ (args_tuple_getitem _ _)))
 show wpAny _ _ (Builtin.Tuple.tupleItemsOf (.ref t) >>= _) _ _ s;refine a9 (tupleItemsOf_ ht ?_);refine a9 (Cs hTs ?_);rw[eP ⋯];refine a9 (gq hs pl pu ?_);have hno : ¬ ((((cG ao.size 0 lo:Nat):Int)==0&&(1:Int)==1&&(cG ao.size ao.size hi - cG ao.size 0 lo)==ao.size)=true):=by intro q;rw[c8,c8]at q;have q1:((cG ao.size 0 lo:Nat):Int)=0:=eq_of_beq q.1.1;have q2:cG ao.size ao.size hi - cG ao.size 0 lo=ao.size:=eq_of_beq q.2;exact hw ⟨by lia,by lia⟩
 show wpAny _ _ (if (((cG ao.size 0 lo:Nat):Int)==0&&(1:Int)==1&&(cG ao.size ao.size hi - cG ao.size 0 lo)==ao.size)=true then _ else _) _ _ s
 rw[eQ hno,Et]
 first
  |exact a9 (m:=Builtin.Tuple.tupleExact _) (oT (d6 ⟨_,rfl,d6 h⟩) zm)
  |exact a9 (m:=Builtin.Tuple.tupleExact _) (oT (a9 (d6 (d6 ⟨_,rfl,d6 h⟩))) zm)
  |exact a9 (a9 (m:=Builtin.Tuple.tupleExact _) (oT (d6 (d6 ⟨_,rfl,d6 h⟩)) zm))
  |exact a9 (a9 (m:=Builtin.Tuple.tupleExact _) (oT (d6 ⟨_,rfl,d6 h⟩) zm))
end
end HT
namespace L2
abbrev TO:=St->Hp->(Option Int->Hp->Prop)->Prop
def PO(X:Cx)(e:Option Expr)(t:TO):Prop:=
 ∀(ah:List (Addr×Obj)) (s:Shared) (σ:St) (H:Hp) (Q:Option Int->Hp->Prop),Inv X ah σ H s->t σ H Q->
  wpAny (model X.prog X.w) X.A (evalPart e X.env) (λu s'=>∃o H',Inv X ah σ H' s'/\IsPart u o/\Q o H') X.xe s
def J5:TO:=λ_ H Q=>Q none H
def WT(t:TE):TO:=λσ H Q=>t σ H λx H1=>∃i,x=.int i/\Q (some i) H1
theorem intsAre_of:∀{us:List Value},Vals (ns.map V.int) us->IntsAre us ns:=by
 induction ns with
 |nil=>intro us r;rw[List.map_nil]at r;cases r;exact .nil
 |cons n ns ih=>
  intro us r;rw[List.map_cons]at r;cases r with
  |cons r1 r2=>obtain⟨t,e⟩:=r1;subst e;exact .cons n t (ih r2)
section
variable{X:Cx}{e:Expr}{te:TE}{lo hi:Option Expr}{tl th:TO}{pos p2:Pos}
theorem J6:PO X none J5:=by intro ah s σ H Q I h;rw[evalPart_none];exact d6 ⟨none,H,I,.none,h⟩
theorem J7(h:PE X e te):PO X (some e) (WT te):=by
 intro ah s σ H Q I hw;rw[evalPart_some];refine cF (h ah s σ H _ I hw) λu s1 ⟨x,H1,I1,r1,q1⟩=>?_
 obtain⟨i,rfl,q⟩:=q1;obtain⟨t,rfl⟩:=r1;exact⟨some i,H1,I1,.int i t,q⟩
def Zk(X:Cx)(r:V->Option Int->Option Int->Hp->VK->Prop):Prop:=
 ∀(ah:List (Addr×Obj)) (s:Shared) (σ:St) (H:Hp) (x:V) (v vl vu:Value) (lo hi:Option Int) (sl:Addr) (Q:VK),Inv X ah σ H s->RelV x v->s.heap.IsSliceOf sl vl vu .none->IsPart vl lo->IsPart vu hi->r x lo hi H Q->
  ∃T id,typeLookup (.type T) "__getitem__"=pure (some (.builtin id))/\s.TypeIs v T/\wpAny (model X.prog X.w) X.A (getItem v (.ref sl)) (EP X ah σ Q) X.xe s
noncomputable def tSl(r:V->Option Int->Option Int->Hp->VK->Prop)(te:TE)(tl th:TO):TE:=λσ H Q=>te σ H λx H1=>tl σ H1 λl H2=>th σ H2 λu H3=>r x l u H3 Q
theorem oJ{r:V->Option Int->Option Int->Hp->VK->Prop}(hr:Zk X r)(he:PE X e te)(hl:PO X lo tl)(hu:PO X hi th):PE X (.Subscript e (.Slice lo hi none p2) pos) (tSl r te tl th):=by
 intro ah s σ H Q I h;refine Subscript_ (cF (he ah s σ H _ I h) λv s1 ⟨x,H1,I1,r1,q1⟩=>?_)
 refine wpAny_Slice (cF (hl ah s1 σ H1 _ I1 q1) λvl s2 ⟨l,H2,I2,pl,q2⟩=>cF (hu ah s2 σ H2 _ I2 q2) λvu s3 ⟨u,H3,I3,pu,q3⟩=>?_)
 rw[evalPart_none];refine d6 ?_;have I4:Inv X ah σ H3 { s3 with heap:=s3.heap.push { cls:=.type "slice",data:=.fields #[vl,vu,.none]}}:=I3.kept (t':=s3.toks) λb ob q=>b7 _ q
 obtain⟨T,id,hT,ht,hg⟩:=hr ah { s3 with heap:=s3.heap.push { cls:=.type "slice",data:=.fields #[vl,vu,.none]}} σ H3 x v vl vu l u s3⁻¹ Q I4 r1 (Heap.IsSliceOf.new ..) pl pu q3;show wpAny (model X.prog X.w) X.A (subscriptTail e (.Slice lo hi none p2) v (.ref s3⁻¹)) (EP X ah σ Q) X.xe { s3 with heap:=s3.heap.push { cls:=.type "slice",data:=.fields #[vl,vu,.none]}};exact tail_any (ops:=[.ref s3⁻¹,v]) ht hT hg (by with_unfolding_all rfl)
def sU(xs:List V)(lo hi:Option Int):List V:=(xs.drop (HT.cG xs.length 0 lo)).take (HT.cG xs.length xs.length hi - HT.cG xs.length 0 lo)
theorem mR(xs:List V)(lo hi:Option Int):(sU xs lo hi).length<=xs.length:=by unfold sU;rw[rV,List.length_drop];lia
def rSlT(K:Frag):V->Option Int->Option Int->Hp->VK->Prop:=λx lo hi H Q=>∃a xs,x=.ref a/\fy K H a xs/\
 ¬ (HT.cG xs.length 0 lo=0/\HT.cG xs.length xs.length hi=xs.length)/\∀p,H p=none->Q (.ref p) (upd H p (.tup (sU xs lo hi)))
theorem QD:Zk X (rSlT X.K):=by
 intro ah s σ H x v vl vu lo hi sl Q I rx hs pl pu h;obtain⟨a,xs,rfl,hx,hw,q⟩:=h;cases rx;obtain⟨aA,r,ht,hz⟩:=I.tuple hx;have aJ:aA.toArray.size=xs.length:=by rw[b6];exact r.length.symm
 refine⟨"tuple",_,PyProof.Rows.slot_tuple_getitem.lookup,ht.typeIs,?_⟩;refine HT.j6 ht hs pl pu (by rw[aJ];exact hw) ?_ (by rw[aJ];exact hz)
 rw[aJ];refine⟨.ref s⁻¹,_,I.laid (t':=s.toks) (o:=.tup (sU xs lo hi)) (λb ob q=>b7 _ q) (d5 _) ?_,rfl,q _ (I.hok.fresh (d5 _))⟩
 exact⟨hV (mR xs lo hi) hz,_,(r.drop (HT.cG xs.length 0 lo)).take (HT.cG xs.length xs.length hi - HT.cG xs.length 0 lo),g9.new _ _⟩
def rLtT(K:Frag):R2:=λx y H Q=>∃a b ns ms,x=.ref a/\y=.ref b/\fy K H a (ns.map V.int)/\fy K H b (ms.map V.int)/\Q (.bl (HT.lexLt ns ms)) H
theorem QF(hu:X.A.units<cLine):jX X (compareOp .Lt) (rLtT X.K):=by intro ah s σ H x y v u Q I rx ry h;obtain⟨a,b,ns,ms,rfl,rfl,ha,hb,q⟩:=h;cases rx;cases ry;obtain⟨aA,r1,p1,_⟩:=I.tuple ha;obtain⟨gX,r2,p2,_⟩:=I.tuple hb;have i1:IntsAre aA.toArray.toList ns:=intsAre_of r1;have i2:IntsAre gX.toArray.toList ms:=intsAre_of r2;exact HT.jC p1 p2 i1 i2 hu ⟨.bl (HT.lexLt ns ms),H,I,rfl,q⟩
def WW(K:Frag):R2:=λx y H Q=>∃a b xs ys,x=.ref a/\y=.ref b/\fy K H a xs/\fy K H b ys/\xs≠[]/\xs.length+ys.length<=sizeLine/\
 (ys=[]->Q (.ref a) H)/\(ys≠[]->∀p,H p=none->Q (.ref p) (upd H p (.tup (xs++ys))))
theorem Vals.sV(r:Vals xs us):us=[] ↔ xs=[]:=by
 cases r with
 |nil=>simp
 |cons _ _=>simp
theorem J8:jX X (binaryOp .Add) (WW X.K):=by
 intro ah s σ H x y v u Q I rx ry h;obtain⟨a,b,xs,ys,rfl,rfl,ha,hb,hx,hz,q1,q2⟩:=h;cases rx;cases ry;obtain⟨aA,r1,p1,_⟩:=I.tuple ha;obtain⟨gX,r2,p2,_⟩:=I.tuple hb;refine HT.J4 p1 p2 (λz=>hx (r1.sV.mp z)) (λz=>⟨.ref a,H,I,rfl,q1 (r2.sV.mp z)⟩) (λz=>?_) (by rw[<- r1.length,<- r2.length];exact hz)
 refine⟨.ref s⁻¹,_,I.laid (t':=s.toks) (o:=.tup (xs++ys)) (λb ob q=>b7 _ q) (d5 _) ?_,rfl,q2 (λw=>z (r2.sV.mpr w)) _ (I.hok.fresh (d5 _))⟩
 exact⟨by rw[dL];exact hz,_,r1.append r2,g9.new _ _⟩
end
noncomputable def nR(n:Nat)(i:Int):Option Nat:=if 0<=i then (if i<n then some i.toNat else none)else if -(n:Int)<=i then some (i+n).toNat else none
def fB{α:Type}(xs:List α)(i:Int):Option α:=(nR xs.length i).bind λj=>xs[j]?
theorem sW(h:nR n i=some j):seqIndex? i n=some j/\j<n/\-(n:Int)<=i/\i<n:=by
 unfold nR at h;by_cases h0:0<=i
 .
  rw[eP h0]at h;by_cases h1:i<n
  . rw[eP h1]at h;have e:i.toNat=j:=nS h;exact⟨by rw[seqIndex_of h0 h1,e],by lia,by lia,h1⟩
  . rw[eQ h1]at h;cases h
 .
  rw[eQ h0]at h;by_cases h1 : -(n:Int)<=i
  . rw[eP h1]at h;have e:(i+n).toNat=j:=nS h;exact⟨by rw[seqIndex_neg ⋯ h1,e],by lia,h1,by lia⟩
  . rw[eQ h1]at h;cases h
theorem zo{α:Type}{xs:List α}{i:Int}{v:α}(h:fB xs i=some v):∃j,seqIndex? i xs.length=some j/\xs[j]?=some v/\j<xs.length/\-(xs.length:Int)<=i/\i<xs.length:=by
 unfold fB at h;cases e:nR xs.length i with
 |none=>rw[e]at h;cases h
 |some j=>rw[e]at h;obtain⟨h1,h2,h3,h4⟩:=sW e;exact⟨j,h1,h,h2,h3,h4⟩
def sY(b:Expr):Prop:=∀o i,subscripted b false o i=operate [o,i] (getItem o i)
def WX(X:Cx)(r:R2):Prop:=
 ∀(value slice:Expr) (ah:List (Addr×Obj)) (s:Shared) (σ:St) (H:Hp) (x y:V) (v u:Value) (Q:VK),Inv X ah σ H s->RelV x v->RelV y u->r x y H Q->
  subscripted slice false v u=operate [v,u] (getItem v u)->wpAny (model X.prog X.w) X.A (subscriptTail value slice v u) (EP X ah σ Q) X.xe s
def MtR(X:Cx)(id:String)(r:V->List V->Hp->VK->Prop):Prop:=
 ∀(ah:List (Addr×Obj)) (s:Shared) (σ:St) (H:Hp) (x:V) (xs:List V) (v:Value) (us:List Value) (Q:VK),Inv X ah σ H s->RelV x v->Vals xs us->r x xs H Q->
  wpAny (model X.prog X.w) X.A (call (.builtin id) (v::us)) (EP X ah σ Q) X.xe s
section
variable{X:Cx}{a b:Expr}{ta tb:TE}{pos:Pos}
theorem Ou{r:R2}(hr:WX X r)(ha:PE X a ta)(hb:PE X b tb)(hs:sY b):PE X (.Subscript a b pos) (Zj r ta tb):=by intro ah s σ H Q I h;exact Subscript_ (Qo ha hb I h λv u s2 x y H2 I2 rx ry q=>hr a b ah s2 σ H2 x y v u Q I2 rx ry q (hs _ _))
def rIxL(K:Frag):R2:=λx y H Q=>∃p xs i v,x=.ref p/\y=.int i/\bY K H p xs/\fB xs i=some v/\Q v H
def rIxT(K:Frag):R2:=λx y H Q=>∃p xs i v,x=.ref p/\y=.int i/\fy K H p xs/\fB xs i=some v/\Q v H
theorem sZ:WX X (rIxL X.K):=by
 intro value slice ah s σ H x y v u Q I rx ry h hs;obtain⟨p,xs,i,z,rfl,rfl,hq,he,q⟩:=h;cases rx;obtain⟨t,rfl⟩:=ry;obtain⟨aA,r,pl,hz⟩:=I.list hq;obtain⟨j,h1,h2,h3,h4,h5⟩:=zo he;obtain⟨w,ew,rw'⟩:=r.get h2;have hl:=r.length;have hn:=oB;have fin:EP X ah σ Q w s:=⟨z,H,I,rw',q⟩;by_cases h0:0<=i
 .
  have hj:i.toNat=j:=by rw[seqIndex_of h0 h5]at h1;exact nS h1
  exact item_listR pl.isList h0 ⋯ (by rw[hj];simpa using ew) fin hs
 .
  have hj:(i+(aA.toArray.size:Int)).toNat=j:=by rw[seqIndex_neg ⋯ h4]at h1;rw[b6,<- hl];exact nS h1
  exact subscriptTail_builtinR (x:=w) pl.isList.typeIs slot_list_getitem.lookup
   (wpAny_getItem_list_neg (Q:=λr s'=>r=w/\EP X ah σ Q r s') pl.isList ⋯ (by rw[b6] <;> lia) ⋯ (by rw[hj];simpa using ew) ⟨rfl,fin⟩) hs
theorem QG:WX X (rIxT X.K):=by
 intro value slice ah s σ H x y v u Q I rx ry h hs;obtain⟨p,xs,i,z,rfl,rfl,hq,he,q⟩:=h;cases rx;obtain⟨t,rfl⟩:=ry;obtain⟨aA,r,pl,hz⟩:=I.tuple hq;obtain⟨j,h1,h2,h3,h4,h5⟩:=zo he;obtain⟨w,ew,rw'⟩:=r.get h2;have hl:=r.length;have hn:=oB;have fin:EP X ah σ Q w s:=⟨z,H,I,rw',q⟩;exact subscriptTail_builtinR (x:=w) pl.typeIs slot_tuple_getitem.lookup
  (getItem_tuple (j:=j) (Q:=λr s'=>r=w/\EP X ah σ Q r s') pl ⋯ ⋯ (by rw[b6,<- hl];exact h1) (by simpa using ew) ⟨rfl,fin⟩) hs
theorem xQ(aA:List Value)(n j:Nat)(u:Value):Obj.mapSeq (·.setIfInBounds j u) { cls:=.type "list",data:=.seq aA.toArray n}={ cls:=.type "list",data:=.seq (aA.set j u).toArray n}:=by simp[Obj.mapSeq]
theorem Inv.lst{ah:List (Addr×Obj)}{σ:St}{H:Hp}{s:Shared}{p:Addr}{xs:List V}(I:Inv X ah σ H s)(h:H p=some (.lst xs)) :
  ∃(aA:List Value) (n:Nat),Vals xs aA/\s.heap.get? p=some { cls:=.type "list",data:=.seq aA.toArray n}/\xs.length<=sizeLine:=by
 obtain⟨z,aA,n,r,e⟩:=I.hok p _ h;exact⟨aA,n,r,e,z⟩
theorem Inv.QH{ah:List (Addr×Obj)}{σ:St}{H:Hp}{s:Shared}{p:Addr}{xs ys:List V}{aA its':List Value}{n n':Nat}{f:Obj->Obj}(I:Inv X ah σ H s)(h:H p=some (.lst xs))
  (ho:s.heap.get? p=some { cls:=.type "list",data:=.seq aA.toArray n}) (hf:f { cls:=.type "list",data:=.seq aA.toArray n}={ cls:=.type "list",data:=.seq its'.toArray n'}) (r:Vals ys its') (hz:ys.length<=sizeLine) (t:Nat) :
  Inv X ah σ (upd H p (.lst ys)) { s with heap:=s.heap.update p f,toks:=t}:=by
 have e:(s.heap.update p f).get? p=some { cls:=.type "list",data:=.seq its'.toArray n'}:=by rw[t5 f ho (by rw[hf] <;> rfl),hf]
 refine I.write (x:=p) (e:=p) (by rw[h];trivial) (.inl rfl) (λb u hb q=>(i9 _ _ (tP hb)).trans q) ⟨_,e⟩ ?_
 exact⟨hz,its',n',r,e⟩
def WY:V->V->V->Hp->(Hp->Prop)->Prop:=λo i v H Q=>∃p xs k j,o=.ref p/\i=.int k/\H p=some (.lst xs)/\nR xs.length k=some j/\Q (upd H p (.lst (xs.set j v)))
theorem set_list:Wj X WY:=by
 intro ah s σ H o i v ov iv u Q I ro ri rv h;obtain⟨p,xs,k,j,rfl,rfl,hp,hj,q⟩:=h;cases ro;obtain⟨t,rfl⟩:=ri;obtain⟨aA,n,r,ho,hz⟩:=I.lst hp;obtain⟨h1,h2,h3,h4⟩:=sW hj;have hl:=r.length;have hn:=oB;have I':Inv X ah σ (upd H p (.lst (xs.set j v))) { s with heap:=s.heap.update p (Obj.mapSeq (·.setIfInBounds j u))}:=
  I.QH hp ho (xQ aA n j u) (r.set rv j) (by rw[t6];exact hz) s.toks
 by_cases h0:0<=k
 .
  have hk:k.toNat=j:=by rw[seqIndex_of h0 h4]at h1;exact nS h1
  exact PySem.W.ki_setAt ho h0 ⋯ (by rw[b6,<- hl];exact h4) (by rw[hk];exact⟨_,I',q⟩)
 .
  have hk:(k+(aA.toArray.size:Int)).toNat=j:=by rw[seqIndex_neg ⋯ h3]at h1;rw[b6,<- hl];exact nS h1
  exact PySem.W.ki_setBack ho ⋯ (by rw[b6,<- hl];exact h3) ⋯ (by rw[hk];exact⟨_,I',q⟩)
theorem tD(lo hi:Option Int)(n:Nat):(sliceBounds lo hi none n).1=((HT.cG n 0 lo:Nat):Int)/\(sliceBounds lo hi none n).2.1=((HT.cG n n hi:Nat):Int)/\(sliceBounds lo hi none n).2.2=1:=by
 refine⟨?_,?_,rfl⟩
 .
  cases lo with
  |none=>simp[sliceBounds,HT.cG]
  |some i=>
   simp only[sliceBounds,HT.cG,Option.getD_none,show (1:Int) > 0 by decide,u7]
   by_cases h:i<0
   . simp only[h,u7] <;> lia
   . simp only[h,Co] <;> lia
 .
  cases hi with
  |none=>simp[sliceBounds,HT.cG]
  |some i=>
   simp only[sliceBounds,HT.cG,Option.getD_none,show (1:Int) > 0 by decide,u7]
   by_cases h:i<0
   . simp only[h,u7] <;> lia
   . simp only[h,Co] <;> lia
theorem qI(aA:List Value)(lo hi:Option Int):slicePick aA.toArray lo hi none=((aA.drop (HT.cG aA.length 0 lo)).take (HT.cG aA.length aA.length hi - HT.cG aA.length 0 lo)).toArray:=by obtain⟨h1,h2,h3⟩:=tD lo hi aA.toArray.size;unfold slicePick;rw[h1,h2,h3];simp only[sliceRange_one,pick_run,b6] <;> rfl
def rSlL(K:Frag):V->Option Int->Option Int->Hp->VK->Prop:=λx lo hi H Q=>∃a xs,x=.ref a/\bY K H a xs/\∀p,H p=none->Q (.ref p) (upd H p (.lst (sU xs lo hi)))
theorem zp:Zk X (rSlL X.K):=by
 intro ah s σ H x v vl vu lo hi sl Q I rx hs pl pu h;obtain⟨a,xs,rfl,hx,q⟩:=h;cases rx;obtain⟨aA,r,ht,hz⟩:=I.list hx;have aJ:=r.length;refine⟨"list",_,slot_list_getitem.lookup,ht.isList.typeIs,?_⟩;refine wpAny_getItem_list_slice ht.isList hs pl pu .none ⋯ ?_ (by rw[b6] <;> lia)
 rw[qI,<- aJ];refine⟨.ref s⁻¹,_,I.laid (t':=s.toks) (o:=.lst (sU xs lo hi)) (λb ob q=>b7 _ q) (d5 _) ?_,rfl,q _ (I.hok.fresh (d5 _))⟩
 exact⟨hV (mR xs lo hi) hz,_,0,(r.drop (HT.cG xs.length 0 lo)).take (HT.cG xs.length xs.length hi - HT.cG xs.length 0 lo),eA _ rfl⟩
theorem tE:dO X (.type "list") (λxs H Q=>∃p ys,xs=[.ref p]/\(bY X.K H p ys\/fy X.K H p ys)/\∀l,H l=none->Q (.ref l) (upd H l (.lst ys))):=by
 intro ah s σ H xs us Q I r h;obtain⟨p,ys,rfl,hq,q⟩:=h;obtain⟨u,rfl,rx⟩:=vals1 r;cases rx;have fin:∀(aA:List Value),Vals ys aA->ys.length<=sizeLine->∀(h':Heap) (c':Nat),(∀b o',s.heap.get? b=some o'->h'.get? b=some o')->
   h'.get? s⁻¹=some { cls:=.type "list",dict:=none,data:=.seq aA.toArray c',slots:=#[]}->EP X ah σ Q (.ref s⁻¹) { s with heap:=h'}:=λaA r' hz h' c' kp e=>
  ⟨.ref s⁻¹,_,I.laid (t':=s.toks) kp (d5 _) (show eE X.prog X.w _ h' _ (.lst ys)from⟨hz,aA,c',r',e⟩),rfl,q _ (I.hok.fresh (d5 _))⟩
 rcases hq with hq |hq
 . obtain⟨aA,r',pl,hz⟩:=I.list hq;have aJ:=r'.length;obtain⟨o,ho,hc,n,hd⟩:=pl.isList;exact call_list_seq p (.inl rfl) ho hc hd (λh' c' kp e=>fin aA r' hz h' c' kp e) (by simp only[b6] <;> lia)
 . obtain⟨aA,r',pl,hz⟩:=I.tuple hq;have aJ:=r'.length;obtain⟨o,ho,hc,n,hd⟩:=pl;exact call_list_seq p (.inr rfl) ho hc hd (λh' c' kp e=>fin aA r' hz h' c' kp e) (by simp only[b6] <;> lia)
theorem qJ:dO X (.type "tuple") (λxs H Q=>∃p ys,xs=[.ref p]/\((bY X.K H p ys/\∀l,H l=none->Q (.ref l) (upd H l (.tup ys)))\/(fy X.K H p ys/\Q (.ref p) H))):=by
 intro ah s σ H xs us Q I r h;obtain⟨p,ys,rfl,h⟩:=h;obtain⟨u,rfl,rx⟩:=vals1 r;cases rx;rcases h with ⟨hq,q⟩ |⟨hq,q⟩
 .
  obtain⟨aA,r',pl,hz⟩:=I.list hq;have aJ:=r'.length;refine call_tuple_list pl.isList (λh' kp=>?_) (by simp only[b6] <;> lia)
  have I1:Inv X ah σ H { s with heap:=h'}:=I.kept (t':=s.toks) kp;have I2:Inv X ah σ (upd H h'.objs.size (.tup ys)) { s with heap:=h'.push { cls:=.type "tuple",data:=.seq aA.toArray}}:=
   I1.laid (t':=s.toks) (λb o e=>b7 _ e) (d5 _) (show eE X.prog X.w _ _ _ (.tup ys)from⟨hz,aA,r',g9.new _ _⟩)
  exact⟨.ref h'.objs.size,_,I2,rfl,q _ (I1.hok.fresh (d5 _))⟩
 . obtain⟨aA,r',pl,hz⟩:=I.tuple hq;exact call_tuple_same pl ⟨.ref p,H,I,rfl,q⟩
def tyV(K:Frag)(T:String)(x:V)(H:Hp):Prop:=match x with
 |.str _=>T = "str"
 |.int _=>T = "int"
 |.ref p=>(T = "list" /\∃xs,bY K H p xs)\/(T = "tuple" /\∃o,K.lookup p=some o/\o.cls=.type "tuple" /\o.dict=none)\/
   (T = "dict" /\((∃eT,H p=some (.dK eT))\/∃eT,H p=some (.dT eT)))\/(T = "set" /\∃S n,H p=some (.set S n))
 |_=>False
theorem QJ{ah:List (Addr×Obj)}{σ:St}{H:Hp}{s:Shared}{T:String}{x:V}{v:Value}(I:Inv X ah σ H s)(r:RelV x v)(ty:tyV X.K T x H) :
  s.TypeIs v T/\∀a,v=.ref a->∃ob,s.heap.get? a=some ob/\ob.dict=none:=by
 cases x with
 |str z=>
  obtain⟨t,rfl⟩:=r;cases (show T = "str" from ty)
  exact⟨typeIs_str s z t,λ_ e=>nomatch e⟩
 |int i=>
  obtain⟨t,rfl⟩:=r;cases (show T = "int" from ty)
  exact⟨typeIs_int s i t,λ_ e=>nomatch e⟩
 |ref p=>
  cases r;rcases ty with ⟨rfl,xs,hq⟩ |⟨rfl,o,hk,hc,hd⟩ |⟨rfl,hk⟩ |⟨rfl,S,n,hk⟩
  .
   obtain⟨aA,_,pl,_⟩:=I.list hq;refine⟨pl.isList.typeIs,λa e=>?_⟩
   cases e;obtain⟨o,n,e,c,hd,_⟩:=pl;exact⟨o,e,hd⟩
  .
   refine⟨⟨o,I.uS p o hk,hc⟩,λa e=>?_⟩
   cases e;exact⟨o,I.uS _ o hk,hd⟩
  .
   have z:∃o,s.heap.get? p=some o/\o.ExactDict:=by
    rcases hk with ⟨eT,hk⟩ |⟨eT,hk⟩
    . obtain⟨_,_,_,_,o,_,_,e,ex,_⟩:=I.hok p _ hk;exact⟨o,e,ex⟩
    . obtain⟨_,_,_,_,o,_,_,e,ex,_⟩:=I.hok p _ hk;exact⟨o,e,ex⟩
   obtain⟨o,e,ex⟩:=z;refine⟨⟨o,e,ex.1⟩,λa e2=>?_⟩
   cases e2;exact⟨o,e,ex.2.1⟩
  .
   obtain⟨o,_,_,_,e,ex,_⟩:=I.hok p _ hk;refine⟨⟨o,e,ex.1⟩,λa e2=>?_⟩
   cases e2;exact⟨o,e,ex.2.1⟩
 |_=>exact False.elim ty
def tBM(K:Frag)(T:String)(r:V->List V->Hp->VK->Prop)(to:TE)(t:TA):TE:=λσ H Q=>to σ H λx H1=>tyV K T x H1/\t σ H1 λxs H2=>r x xs H2 Q
variable{o e:Expr}{es:List Expr}{to:TE}{t:TA}{name:Str}{eo bQ:Pos}{T id:String}{r:V->List V->Hp->VK->Prop}
theorem zq(pa:PlainAttrs T)(slot:Slot T name id)(hty:typeOf (.builtin id)=pure (.type "method_descriptor"))(hm:MtR X id r)(ho:PE X o to)(ha:PA X (e::es) t)
  (hbase:attributeBase o name X.env (eval o X.env)=eval o X.env:=by rfl)
  (hfew:((backTo bQ (starEach (e::es) X.env)).all (λx=>!x.1)&&(backToKw bQ (keywordEach [] X.env)).all (λx=>x.1.isSome)
   && decide ((e::es).length+([]:List Keyword).length+(if ([]:List Keyword).isEmpty then 0 else 1)<30))=true:=by rfl)
  (hline:(eo.endLine==bQ.line)=true:=by rfl) (hs:starEach (e::es) X.env=(false,eval e X.env)::starEach es X.env:=by rfl) (hplain:(backTo bQ (starEach es X.env)).any (·.1)=false:=by rfl) :
  PE X (.Call (.Attribute o name eo) (e::es) [] bQ) (tBM X.K T r to t):=by
 intro ah s σ H Q I h;refine wpAny_Call_method_late hbase hfew hline rfl (cF (ho ah s σ H _ I h) λv s1 ⟨x,H1,I1,r1,ty,q1⟩=>?_)
 obtain⟨h1,h2⟩:=QJ I1 r1 ty;refine⟨T,id,pa,slot,hty,h1,h2,?_⟩;have hA:=ha bQ ah s1 σ H1 _ I1 q1;rw[hs]at hA ⊢
 refine Calls.callWith_builtin (by show (false||(backTo bQ (starEach es X.env)).any (·.1))=false;rw[hplain] <;> rfl) (Calls.evalArgs_plain ?_)
 exact cF hA λus s2 ⟨vs,H2,I2,r2,q2⟩=>hm ah s2 σ H2 x vs v us Q I2 r1 r2 q2
/- xs.append(e),list.index on a module's tuple .. are MtR facts of 06m -/
end
def MtM(X:Cx)(id:String)(r:V->List V->Hp->VK->Prop):Prop:=
 ∀(ah:List (Addr×Obj)) (s:Shared) (σ:St) (H:Hp) (x:V) (xs:List V) (v:Value) (us:List Value) (Q:VK),Inv X ah σ H s->RelV x v->Vals xs us->r x xs H Q->
  wpAny (model X.prog X.w) X.A (call (.builtin id) (v::us)) (EP X ah σ Q) X.xe s
theorem Vals.one:∀{x:V}{us:List Value},Vals [x] us->∃u,us=[u]/\RelV x u
 |_,_,.cons r .nil=>⟨_,rfl,r⟩
theorem Vals.eraseIdx:∀{xs:List V}{us:List Value} (i:Nat),Vals xs us->Vals (xs.eraseIdx i) (us.eraseIdx i)
 |_,_,_,.nil=>.nil
 |_,_,0,.cons _ t=>t
 |_,_,i+1,.cons r t=>.cons r (Vals.eraseIdx i t)
theorem Vals.rep(h:Vals xs us):∀k:Nat,Vals (List.replicate k xs).flatten (List.replicate k us).flatten
 | 0=>.nil
 |k+1=>by
  rw[mN,mN,y0,y0];exact Vals.append h (Vals.rep h k)
theorem rD{α:Type}:∀(l:List α) (i:Nat),(l.eraseIdx i).length<=l.length
 | [],_=>d5 _
 |_::_,0=>wE _
 |_::r,i+1=>Nat.succ_le_succ (rD r i)
theorem foldl_rep(aA:List Value):∀(k:Nat) (acc:List Value),
  List.foldl (λx1 x2=>x1++x2) acc.toArray (List.replicate k aA.toArray)=(acc++(List.replicate k aA).flatten).toArray
 | 0,acc=>by simp
 |k+1,acc=>by
  have e:acc.toArray++aA.toArray=(acc++aA).toArray:=by simp
  have e2:(acc++aA)++(List.replicate k aA).flatten=acc++(List.replicate (k+1) aA).flatten:=by rw[mN,y0,v3]
  rw[<- e2,<- foldl_rep aA k (acc++aA),<- e,mN,List.foldl_cons]
section
variable{X:Cx}{ah:List (Addr×Obj)}{σ:St}{H:Hp}{s:Shared}{l b:Addr}{xs ys zs:List V}
theorem Inv.J9{aA its':List Value}{n:Nat}{f:Array Value->Array Value}{t':Nat}(I:Inv X ah σ H s)(hH:H l=some (.lst xs))
  (e:s.heap.get? l=some { cls:=.type "list",data:=.seq aA.toArray n}) (hf:f aA.toArray=its'.toArray) (hv:Vals ys its') (hz:ys.length<=sizeLine) :
  Inv X ah σ (upd H l (.lst ys)) { s with heap:=s.heap.update l (Obj.mapSeq f),toks:=t'}:=by
 have q:=PySem.IsL.update e f;rw[hf]at q;refine I.write (x:=l) (e:=l) (by rw[hH];exact trivial) (.inl rfl) (λb' u hb hu=>(i9 s.heap (Obj.mapSeq f) (tP hb)).trans hu) ⟨_,q⟩ ?_
 exact⟨hz,its',_,hv,q⟩
theorem Inv.W0(I:Inv X ah σ H s)(hv:Vals ys aA)(hz:ys.length<=sizeLine) :
  Inv X ah σ (upd H s⁻¹ (.lst ys)) { s with heap:=s.heap.push { cls:=.type "list",data:=.seq aA.toArray},toks:=t'}:=
 I.laid (λ_ _ q=>b7 _ q) (d5 _) ⟨hz,aA,0,hv,eA _ rfl⟩
theorem Inv.fresh(I:Inv X ah σ H s):H s⁻¹=none:=I.hok.fresh (d5 _)
theorem Inv.tF(I:Inv X ah σ H s)(hH:H l=some (.lst xs)):xs.length<=sizeLine/\∃(aA:List Value) (n:Nat),Vals xs aA/\xs.length=aA.length/\s.heap.get? l=some { cls:=.type "list",data:=.seq aA.toArray n}:=by obtain⟨z,aA,n,r,e⟩:=I.hok l _ hH;exact⟨z,aA,n,r,r.length,e⟩
theorem oK(h:n<=sizeLine):Builtin.List.listTooLong n=false:=by unfold Builtin.List.listTooLong;exact l6 ⋯
end
section
variable{X:Cx}
def Ka:V->List V->Hp->VK->Prop:=λx vs H Q=>∃l xs y,x=.ref l/\vs=[y]/\H l=some (.lst xs)/\xs.length<sizeLine/\Q .non (upd H l (.lst (xs++[y])))
theorem lD:MtM X "list.append" Ka:=by
 intro ah s σ H x vs v us Q I rx rv h;obtain⟨l,xs,y,rfl,rfl,hH,hz,q⟩:=h;cases rx;obtain⟨u,rfl,ru⟩:=rv.one;obtain⟨z,aA,n,r,hl,e⟩:=I.tF hH;refine AW F.slot_list_append ⟨_,e,rfl⟩ F.entry_list_append (F.args_list_append_2 _ _) (PySem.list_append l aA.toArray n u (by rw[b6];lia)) ⟨e,?_⟩
 refine⟨.non,_,I.J9 (its':=aA++[u]) hH e ⋯ (r.append (.cons ru .nil)) ?_,rfl,q⟩;rw[dL,l7];lia
def Kc:V->List V->Hp->VK->Prop:=λx vs H Q=>∃l b xs zs,x=.ref l/\vs=[.ref b]/\H l=some (.lst xs)/\H b=some (.lst zs)/\xs.length+zs.length<=sizeLine/\Q .non (upd H l (.lst (xs++zs)))
theorem Bd:MtM X "list.extend" Kc:=by
 intro ah s σ H x vs v us Q I rx rv h;obtain⟨l,b,xs,zs,rfl,rfl,hH,hB,hz,q⟩:=h;cases rx;obtain⟨u,rfl,ru⟩:=rv.one;cases ru;obtain⟨z,aA,n,r,hl,e⟩:=I.tF hH;obtain⟨z2,gX,n2,r2,hl2,e2⟩:=I.tF hB;have DY:aA.toArray.size+gX.toArray.size<=sizeLine:=by rw[b6,b6];lia
 have vd : ¬ (!aA.toArray.isEmpty&&Builtin.List.listTooLong (aA.toArray.size+gX.toArray.size))=true:=by rw[oK DY,CB];exact hU
 refine AW F.slot_list_extend ⟨_,e,rfl⟩ F.entry_list_extend (F.args_list_extend_2 _ _)
  (AutoSeq1.list_extend_list_list_0 l aA.toArray n b gX.toArray n2 vd (by rw[b6];lia) ⋯) ⟨e,e2,?_⟩
 refine⟨.non,_,I.J9 (its':=aA++gX) hH e ⋯ (r.append r2) ?_,rfl,q⟩;rw[dL];lia
def QK:V->List V->Hp->VK->Prop:=λx vs H Q=>∃l xs i k y,x=.ref l/\vs=[.int i]/\H l=some (.lst xs)/\-(2 ^ 63)<=i/\i<2 ^ 63/\seqIndex? i xs.length=some k/\xs[k]?=some y/\Q y (upd H l (.lst (xs.eraseIdx k)))
theorem Eu:MtM X "list.pop" QK:=by
 intro ah s σ H x vs v us Q I rx rv h;obtain⟨l,xs,i,k,y,rfl,rfl,hH,h1,h2,hk,hy,q⟩:=h;cases rx;obtain⟨u,rfl,ru⟩:=rv.one;obtain⟨t,rfl⟩:=ru;obtain⟨z,aA,n,r,hl,e⟩:=I.tF hH;obtain⟨w,hw,rw'⟩:=r.get hy;refine AW F.slot_list_pop ⟨_,e,rfl⟩ F.entry_list_pop (F.args_list_pop_2 _ _)
  (MeetsSeq.list_pop_at l aA.toArray n i t k w (fitsIndex_both h1 h2) (by rw[b6,<- hl];exact hk) (by rw[<- Array.getElem?_toList];exact hw) (by rw[b6];lia)) ⟨e,?_⟩
 refine⟨y,_,I.J9 (its':=aA.eraseIdx k) hH e ?_ (r.eraseIdx k) ?_,rw',q⟩
 . show aA.toArray.eraseIdxIfInBounds k=(aA.eraseIdx k).toArray;rw[List.eraseIdxIfInBounds_toArray]
 . have:=rD xs k;lia
def rCat:R2:=λx y H Q=>∃l b xs zs,x=.ref l/\y=.ref b/\H l=some (.lst xs)/\H b=some (.lst zs)/\xs.length+zs.length<=sizeLine/\∀p,H p=none->Q (.ref p) (upd H p (.lst (xs++zs)))
theorem QL:jX X (binaryOp .Add) rCat:=by
 intro ah s σ H x y v u Q I rx ry h;obtain⟨l,b,xs,zs,rfl,rfl,hH,hB,hz,q⟩:=h;cases rx;cases ry;obtain⟨z,aA,n,r,hl,e⟩:=I.tF hH;obtain⟨z2,gX,n2,r2,hl2,e2⟩:=I.tF hB;refine PySem.P.add_list e e2 ?_ (by rw[b6,b6];lia)
 have ea:aA.toArray++gX.toArray=(aA++gX).toArray:=by simp
 rw[ea];exact⟨.ref _,_,I.W0 (t':=s.toks) (r.append r2) (by rw[dL];lia),rfl,q _ I.fresh⟩
def rRep:R2:=λx y H Q=>∃l k xs,x=.ref l/\y=.int k/\H l=some (.lst xs)/\-(2 ^ 63)<=k/\k<2 ^ 63/\xs.length * k.toNat<=sizeLine/\
 ∀p,H p=none->Q (.ref p) (upd H p (.lst (List.replicate k.toNat xs).flatten))
theorem len_rep{α:Type}(xs:List α)(k:Nat):(List.replicate k xs).flatten.length=k * xs.length:=by
 induction k with
 |zero=>simp
 |succ k ih=>rw[mN,y0,dL,ih,Nat.succ_mul,Nat.add_comm]
theorem QM:jX X (binaryOp .Mult) rRep:=by
 intro ah s σ H x y v u Q I rx ry h;obtain⟨l,k,xs,rfl,rfl,hH,h1,h2,hz,q⟩:=h;cases rx;obtain⟨t,rfl⟩:=ry;obtain⟨z,aA,n,r,hl,e⟩:=I.tF hH;have aJ:aA.toArray.size * k.toNat<=sizeLine:=by rw[b6,<- hl];exact hz
 have hcap : ¬ aA.toArray.size * k.toNat > (2 ^ 63 - 1) / 8:=by
  have:(sizeLine:Nat)<=(2 ^ 63 - 1) / 8:=by decide
  lia
 have hfit : ¬ (!Builtin.List.listFitsIndex k)=true:=by rw[fitsIndex_both h1 h2];exact hU
 have vd : ¬ Builtin.List.listTooLong (aA.toArray.size * k.toNat)=true:=by rw[oK aJ];exact hU
 have hnew:List.foldl (λx1 x2=>x1++x2) #[] (List.replicate (if aA.toArray.isEmpty=true then 0 else k.toNat) aA.toArray)=(List.replicate k.toNat aA).flatten.toArray:=by
  have f0:∀m:Nat,List.foldl (λx1 x2=>x1++x2) #[] (List.replicate m aA.toArray)=(List.replicate m aA).flatten.toArray:=λm=>by
   have:=foldl_rep aA m [];rw[AE]at this;exact this
  rw[f0];cases aA with
  |nil=>simp
  |cons a r'=>rw[eQ ⋯]
 refine wpAny_binaryOp_repeat_ref (T:= "list") (U:= "int") ⋯ ⟨_,e,rfl⟩ (λs'=>typeIs_int s' k t) noFill_list_mul F.fills_int_mul F.slot_int_rmul repeat_list F.slot_int_index.lookup
  (AW F.slot_int_rmul (typeIs_int s k t) F.entry_int_rmul (F.args_int_rmul_2 _ _) (int___rmul___int_list k t l aA.toArray n)
   ⟨e,rfl,⟨_,e,rfl⟩,AW F.slot_list_mul ⟨_,e,rfl⟩ F.entry_list_mul (F.args_list_mul_2 _ _) (AutoListH.list___mul___list_int_3 l aA.toArray n k t hfit hcap vd) ⟨e,?_⟩⟩)
 rw[hnew];exact⟨.ref _,_,I.W0 (t':=s.toks) (r.rep k.toNat) (by rw[len_rep,Nat.mul_comm];exact hz),rfl,q _ I.fresh⟩
end
end L2
namespace Att
open PySem PySem.W PySem.Calls PyProof.Rows
theorem nJ:∀(ns:List Int) (vs:List Value),WellAll P h vs (ns.map WData.int)->IntsAre vs ns:=by
 intro ns
 induction ns with
 |nil=>intro vs w;rw[List.map_nil]at w;cases w;exact .nil
 |cons n ns ih=>
  intro vs w;rw[List.map_cons]at w;cases w with
  |cons a b=>cases a;exact .cons _ _ (ih _ b)
theorem Be{l:OpenLaw}{n:Nat}(hn:l.most=some n){P:Params}{h:Heap}{args:List WData}{vals:List Value}
  (hpre:l.row.toRowW.claim.pre args=true) (hwl:WellAll P h vals args) :
  ∃a vs ns,vals=[Value.ref a]/\args=[WData.list (ns.map WData.int)]/\h.get? a=some { cls:=.type "list",data:=.seq vs.toArray}/\IntsAre vs ns/\ns.length<=n:=by
 have hsh:WShape.hasAll [] args [.list .int]=true:=(pre_splitW hpre).1;have hc:l.pre.holds [] { args:=args}=true:=(pre_splitW hpre).2;obtain⟨d,r,rfl,h1,h2⟩:=hasAllW_cons hsh;obtain rfl:=hasAllW_nil h2;obtain⟨xs,rfl,h3⟩:=hasW_list h1;obtain⟨ns,rfl⟩:=items_int h3;have aJ:ns.length<=n:=by
  unfold OpenLaw.pre at hc;have h4:(WTm.not (.lt (.lit (.int (n:Int))) (.len (.arg 0)))).holds [] { args:=[.list (ns.map .int)]}=true:=by have h4:=(holds_andW hc).1;rw[hn]at h4;exact h4
  have h5:=condW_of h4 (w_not (w_lt w_lit (w_len_list (w_arg rfl))));rw[dC]at h5;refine Nat.le_of_not_lt λq=>?_
  have q':(n:Int)<((ns.length:Nat):Int):=by lia
  first
   | (rw[lL q']at h5;exact absurd h5 ⋯)
   | (simp at h5;lia)
 cases hwl with
 |cons w1 w2=>
  cases w2;cases w1 with
  |list ho hall=>exact⟨_,_,ns,rfl,rfl,ho,nJ ns _ hall,aJ⟩
theorem Bf(l:OpenLaw)(args:List WData):l.row.toRowW.claim.post args (.bool true) args=true:=
 postW_of (r:=l.row.toRowW) (X:=(true==true))
  (show WShape.has [] (.bool true) .bool=true by first |rfl |decide |simp[WShape.has,WShape.arms,WShape.armsAll])
  (show (WTm.eq .res (.lit (.bool true))).value [] { args:=args,res:=some (.bool true),after:=args}=some (.bool (true==true))from w_eq_bool (w_res rfl) w_lit) rfl
theorem ve{l:OpenLaw}{n:Nat}{q:Program}{loose:List Str}{XP:(Str->Option Value)->Heap->Prop}{YP:World->Heap->Prop}{d:DefRec}
  (hn:l.most=some n) (mO:d.params.defaults=[])
  (call:∀(w:World) (s₀ s₁:Shared) (mg mb:Str->Option Value) (fa:Addr) (o:Obj) (pm cd doc:Value) (a:Addr) (vs:List Value) (ns:List Int),
   Ground q loose [] XP w s₀ mg mb s₁.heap->YP w s₁.heap->
   s₁.heap.get? fa=some o->o.data=.func (docDef d.name d.params d.body d.scope pm cd doc)->s₁.heap.CodeRec cd d.name->mg d.name=some (.ref fa)->
   s₁.heap.get? a=some { cls:=.type "list",data:=.seq vs.toArray}->IntsAre vs ns->ns.length<=n->s₁.gens = #[]->
   codeAny (model l.prog w) callerA (.call (.ref fa) ⟨[.ref a],[]⟩) (λr s'=>r=.ok (.ret (.bool true))/\OldK s₁.heap s'.heap/\s'.os=s₁.os/\AllBare s'.gens) s₁) :
  WalkO q loose XP YP l.row.toRowW d [] (λf vs=>PySem.call f vs):=by
 intro w s₀ s₁ mg mb G Y fa o pm cd doc dV kV ho hd eS hD hmg hg args vals as hpre hlay hrd hwl hlo;obtain rfl:dV=.none:=Dflts.none hD mO;obtain rfl:kV=.none:=Dflts.noKw hD;obtain⟨a,vs,ns,rfl,rfl,hobj,hints,aJ⟩:=Be hn hpre hwl;refine enter_call (codeAny_mono (call w s₀ s₁ mg mb fa o pm cd doc a vs ns G Y ho (fd_plain hd) eS hmg hobj hints aJ hg) λr s' hq=>?_)
 obtain⟨rfl,h2,h3,h4⟩:=hq;exact⟨.inl ⟨.bool true,.bool true,[],rfl,λ_=>rfl,.bool true,Bf l _,λ_=>⟨List.Pairwise.nil,λ_ hm=>(nomatch hm)⟩⟩,h2,h3,h4⟩
end Att
namespace L2
theorem iY:∀{vs:List Value}{ns:List Int},IntsAre vs ns->Vals (ns.map V.int) vs
 |_,_,.nil=>.nil
 |_,_,.cons n t h=>.cons ⟨t,rfl⟩ (iY h)
abbrev KOf{K:Frag}{h:Heap}(_:K.In h):Frag:=K
abbrev Jp:Es:=λ_ _ _ _ _ _=>False
abbrev E0:XK:=λ_ _ _=>False
theorem W2:Passes Jp X E0:=λ_ _ _ _ _ _ _ h=>h.elim
structure W3(K:Frag)(x qual:Str)(st:Stmt)(f:Addr)(fd:FuncData):Prop where
 ex:∃(oc:Value) (od:Option Addr) (kV doc pm:Value) (an:Option Addr) (fW ct:Value) (osl:Array (Option Value)),
  fd=PySem.W.fnOf x qual (iW st) (cC st) (aZ st) .none kV doc pm an fW ct/\K.lookup f=some ⟨oc,od,.func fd,osl⟩/\PySem.W.codeIn K fW qual=true
 kp:PySem.W.keepIn K (.ref f)=true
section
variable{P:Program}{w:World}{K:Frag}{mg:Str->Option Value}{base:Heap}
theorem QS{x qual:Str}{st:Stmt}{f:Addr}{oc:Value}{od an:Option Addr}{osl:Array (Option Value)}{kV doc pm fW ct:Value}(l:K.lookup f=some ⟨oc,od,.func (PySem.W.fnOf x qual (iW st) (cC st) (aZ st) .none kV doc pm an fW ct),osl⟩)
  (c:PySem.W.codeIn K fW qual=true) (k:PySem.W.keepIn K (.ref f)=true):W3 K x qual st f (PySem.W.fnOf x qual (iW st) (cC st) (aZ st) .none kV doc pm an fW ct):=⟨⟨oc,od,kV,doc,pm,an,fW,ct,osl,rfl,l,c⟩,k⟩
end
theorem qK{A B:Prop}(h:B):if false=true then A else B:=by rw[eQ hU];exact h
theorem lE{A B:Prop}(h:A):if true=true then A else B:=by rw[eP rfl];exact h
noncomputable def Cx.block(X:Cx)(N:List Str)(scope:Scope)(cl:List (Str×Addr))(C:Addr)(s₀:Shared)(H₀:Hp)(fp:List Addr):Cx:=
 { X with N:=N,s₀:=s₀,H₀:=H₀,env:=compEnvC scope cl C X.env,outer:=X.stack,ex:=fp,fn:=λx=>scope.names.lookup x==some .local,pn:=[],xe:=λ_ _=>False}
structure Bk where
 cl:List (Str×Addr)
 C:Addr
 s₀:Shared
 H₀:Hp
 fp:List Addr
abbrev Cx.blk (X:Cx) (N:List Str) (scope:Scope) (b:Bk):Cx:=X.block N scope b.cl b.C b.s₀ b.H₀ b.fp
structure bR(sc scope:Scope):Prop where
 kind:scope.kind=.function
 Ew:∀y∈scope.names,y.2≠.cell
 uniq:∀y∈scope.names,y.2=.local->scope.names.lookup y.1=some .local
 W4:∀y∈scope.names,y.2=.free->scope.names.lookup y.1=some .free
 free:∀y∈scope.names,y.2=.free->sc.names.lookup y.1=some .cell\/sc.names.lookup y.1=some .free
theorem mem_of_lookup{α:Type}{x:Str}{v:α}:∀{l:List (Str×α)},l.lookup x=some v->(x,v)∈l
 | [],h=>by simp at h
 | (n,k)::r,h=>by
  cases hx:x==n with
  |true=>
   simp only[oP,hx]at h;cases h;have e:x=n:=by simpa using hx
   subst e;exact bP
  |false=>simp only[oP,hx]at h;exact aS _ (mem_of_lookup h)
theorem iz{env:Env}{x:Str}:∀{names:List (Str×NameKind)},
  (names.map λ(n,k)=>if (k==NameKind.free&&env.scope.kind==.function&&env.kindOf n==some .cell)then (n,NameKind.cell)else (n,k)).lookup x
   = (names.lookup x).map λk=>if (k==NameKind.free&&env.scope.kind==.function&&env.kindOf x==some .cell)then NameKind.cell else k
 | []=>rfl
 | (n,k)::r=>by
  have ih:=@iz env x r;show List.lookup x ((if (k==NameKind.free&&env.scope.kind==.function&&env.kindOf n==some .cell)=true then (n,NameKind.cell)else (n,k))::_)=_
  cases hx:x==n with
  |true=>
   have e:x=n:=by simpa using hx
   subst e;by_cases hc:(k==NameKind.free&&env.scope.kind==.function&&env.kindOf x==some .cell)=true
   . rw[eP hc];simp only[oP,hx,A3,eP hc]
   . rw[eQ hc];simp only[oP,hx,A3,eQ hc]
  |false=>
   by_cases hc:(k==NameKind.free&&env.scope.kind==.function&&env.kindOf n==some .cell)=true
   . rw[eP hc];simp only[oP,hx];exact ih
   . rw[eQ hc];simp only[oP,hx];exact ih
theorem xR(h:∀y∈scope.names,y.2=.free->∃c,env.cells.lookup y.1=some c) :
  ∃cl,closureFor scope env=pure cl/\(∀x c,cl.lookup x=some c->env.cells.lookup x=some c/\(x,NameKind.free)∈scope.names)/\∀y∈scope.names,y.2=.free->∃c,cl.lookup y.1=some c:=by
 have key:∀(names:List (Str×NameKind)) (acc:List (Str×Addr)),(∀y∈names,y.2=.free->∃c,env.cells.lookup y.1=some c)->
   ∃cl,(forIn names acc λ(x:Str×NameKind) (cs:List (Str×Addr))=>(match x with | (name,kind)=>if (kind==.free)=true then (do let c <- cellOf env name;pure (ForInStep.yield ((name,c)::cs)))else pure (ForInStep.yield cs):Sem (ForInStep (List (Str×Addr)))))=pure cl/\
    (∀x c,cl.lookup x=some c->acc.lookup x=some c\/(env.cells.lookup x=some c/\(x,NameKind.free)∈names))/\(∀y∈names,y.2=.free->∃c,cl.lookup y.1=some c)/\∀x c,acc.lookup x=some c->∃c',cl.lookup x=some c':=by
  intro names
  induction names with
  |nil=>intro acc _;exact⟨acc,rfl,λx c e=>.inl e,(λy hy=>nomatch hy),λx c e=>⟨c,e⟩⟩
  |cons y r ih=>
   intro acc hf;obtain⟨n,k⟩:=y;rw[List.forIn_cons];by_cases hk:(k==NameKind.free)=true
   .
    obtain⟨c,hc⟩:=hf (n,k) bP (by simpa using hk)
    have hc':env.cells.lookup n=some c:=hc;obtain⟨cl,e,h1,h2,h3⟩:=ih ((n,c)::acc) λy hy=>hf y (aS _ hy)
    refine⟨cl,?_,λx c' q=>?_,λy hy Zm=>?_,λx c' q=>?_⟩
    .
     have ec:cellOf env n=pure c:=by unfold cellOf;rw[hc']
     show ((if (k==NameKind.free)=true then (do let c <- cellOf env n;pure (ForInStep.yield ((n,c)::acc)))else pure (ForInStep.yield acc)) >>= _)=_
     rw[eP hk,ec];exact e
    .
     rcases h1 x c' q with z |⟨z1,z2⟩
     .
      cases hx:x==n with
      |true=>
       simp only[oP,hx]at z;cases z;have e:x=n:=by simpa using hx
       subst e;have ek:k=NameKind.free:=by simpa using hk
       subst ek;exact .inr ⟨hc',bP⟩
      |false=>simp only[oP,hx]at z;exact .inl z
     . exact .inr ⟨z1,aS _ z2⟩
    .
     rcases dS.mp hy with rfl |hy
     . exact h3 n c ⋯
     . exact h2 y hy Zm
    .
     cases hx:x==n with
     |true=>
      have e:x=n:=by simpa using hx
      subst e;exact h3 x c ⋯
     |false=>exact h3 x c' (by simp only[oP,hx];exact q)
   .
    obtain⟨cl,e,h1,h2,h3⟩:=ih acc λy hy=>hf y (aS _ hy)
    refine⟨cl,?_,λx c' q=>?_,λy hy Zm=>?_,h3⟩
    .
     show ((if (k==NameKind.free)=true then (do let c <- cellOf env n;pure (ForInStep.yield ((n,c)::acc)))else pure (ForInStep.yield acc)) >>= _)=_
     rw[eQ hk];exact e
    .
     rcases h1 x c' q with z |⟨z1,z2⟩
     . exact .inl z
     . exact .inr ⟨z1,aS _ z2⟩
    .
     rcases dS.mp hy with rfl |hy
     . exact absurd Zm (by simpa using hk)
     . exact h2 y hy Zm
 obtain⟨cl,e,h1,h2,_⟩:=key scope.names [] h;refine⟨cl,?_,λx c q=>?_,h2⟩
 . exact (congrArg (λ(m:Sem (List (Str×Addr)))=>m >>= λcs=>pure cs) e:_)
 .
  rcases h1 x c q with z |z
  . simp at z
  . exact z
def j7(X:Cx)(ifs:List Expr)(t:TT):Prop:=
 ∀(ah:List (Addr×Obj)) (s:Shared) (σ:St) (H:Hp) (Q:Bool->Hp->Prop),Inv X ah σ H s->t σ H Q->
  wpAny (model X.prog X.w) X.A (forIn ifs true λc r=>if r=true then do let ok <- isTrue c X.env (eval c X.env);pure (ForInStep.yield ok)else pure (ForInStep.yield r)) (TP X ah σ Q) X.xe s
def zu:TT:=λ_ H Q=>Q true H
theorem oM:j7 X [] zu:=λ_ _ _ H _ I h=>wpAny_tests_nil ⟨H,I,h⟩
theorem Ey(h:PT X c t):j7 X [c] t:=λah s σ H Q I hw=>wpAny_tests_one (h ah s σ H Q I hw)
noncomputable def tG(e target iter:Expr)(ifs:List Expr)(d:Nat)(it acc:Value)(env:Env)(em:Sem Unit):Sem Fin:=do
 standAt iter.pos
 match <- pyNext it with
 |none=>pure (.done .next)
 |some v=>
  letOwnedTupleGo target it v
  assign target env v
  let mut ok:=true
  for c in ifs do
   if ok then ok <- isTrue c env (eval c env)
  if ok then em
  again (.compLoop e d it acc env)
def Cu(ce:Expr):Prop:=∀(prog:Program) (w:World) (A:Around) (d:Nat) (it acc:Value) (env:Env),A.under (.compLoop ce d it acc env)=A/\(model prog w).den (.compLoop ce d it acc env)=(compTurn ce d it acc env).onRaise (λx=>do noteFrame x env;theTreesLotGoes x)
theorem j8{prog:Program}{w:World}{A:Around}{R:Result->Shared->Prop}{s:Shared}{ce target iter:Expr}{ifs:List Expr}{d:Nat}{it acc:Value}{env:Env}{em:Sem Unit}(hu:Cu ce)(ht:compTurn ce d it acc env=tG ce target iter ifs d it acc env em)(I:Nat->Shared->Prop)
  (turn:∀n s,I n s->wpAny (model prog w) A (pyNext it) (λr s₁=>match r with
   |none=>R (.ok .next) s₁
   |some v=>wpAny (model prog w) A (letOwnedTupleGo target it v) (λ_ s₁'=>wpAny (model prog w) A (assign target env v) (λ_ s₂=>
     wpAny (model prog w) A (forIn ifs true λc r=>if r=true then do let ok <- isTrue c env (eval c env);pure (ForInStep.yield ok)else pure (ForInStep.yield r)) (λok s₃=>
      if ok=true then wpAny (model prog w) A em (λ_ s₅=>∃m,m<n/\I m s₅) (λ_ _=>False) s₃
      else ∃m,m<n/\I m s₃) (λ_ _=>False) s₂) (λ_ _=>False) s₁') (λ_ _=>False) s₁) (λ_ _=>False) s)
  (n:Nat) (h:I n s) :
  codeAny (model prog w) A (.compLoop ce d it acc env) R s:=by
 refine codeAny_loop rfl I (λn s hI=>?_) n h
 rw[(hu prog w A d it acc env).1,(hu prog w A d it acc env).2];refine wpAny_noted ?_;rw[ht];refine a9 (yA (a9 (mE (turn n s hI) (λr s₁ h₁=>?_) λ_ _ h'=>h'.elim)))
 cases r with
 |none=>exact d6 h₁
 |some v=>
  refine a9 (mE h₁ (λ_ s₁' h₁'=>?_) λ_ _ h'=>h'.elim)
  refine a9 (mE h₁' (λ_ s₂ h₂=>a9 (mE h₂ (λok s₃ h₃=>?_) λ_ _ h'=>h'.elim)) λ_ _ h'=>h'.elim)
  cases ok with
  |false=>exact d6 ⟨rfl,h₃⟩
  |true=>exact a9 (mE h₃ (λ_ s₅ h₅=>d6 ⟨rfl,h₅⟩) λ_ _ h'=>h'.elim)
abbrev TU:=St->Hp->(St->Hp->Prop)->Prop
def PU(X:Cx)(m:Sem Unit)(t:TU):Prop:=
 ∀(ah:List (Addr×Obj)) (s:Shared) (σ:St) (H:Hp) (Q:St->Hp->Prop),Inv X ah σ H s->t σ H Q->wpAny (model X.prog X.w) X.A m (λ_ s'=>∃σ' H',Inv X ah σ' H' s'/\Q σ' H') (λ_ _=>False) s
def qL(D:Addr)(te:TE):TU:=λσ H Q=>te σ H λv H5=>∃ys,H5 D=some (.lst ys)/\ys.length<sizeLine/\Q σ (upd H5 D (.lst (ys++[v])))
theorem xS(he:PE X cN te)(hx:X.xe=λ_ _=>False):PU X (do let _ <- call (.builtin "list.append") [.ref D,<- eval cN X.env]) (qL D te):=by
 intro ah s σ H Q I h;have he:=he ah s σ H _ I h;rw[hx]at he;refine a9 (mE he (λy s8 ⟨v,H8,I8,r8,ys,hD8,hz8,q8⟩=>?_) λ_ _ z=>z)
 have ma:=lD ah s8 σ H8 (.ref D) [v] (.ref D) [y] (λ_ H9=>Q σ H9) I8 rfl (.cons r8 .nil) ⟨_,ys,v,rfl,rfl,hD8,hz8,q8⟩
 rw[hx]at ma;exact a9 (mE ma (λ_ s9 ⟨_,H9,I9,_,q9⟩=>d6 ⟨σ,H9,I9,q9⟩) λ_ _ z=>z)
noncomputable def σC(k:Nat)(D:Addr)(σ:St):St:=σ++(List.replicate k none++[some (.ref D)])
def BkIn(X:Cx)(σ:St)(b:Bk):Prop:=∃ah,Inv X ah σ b.H₀ b.s₀/\∀a∈b.fp,oz X ah b.H₀ a
def Ke(u0:HO)(X:Cx)(k:Nat)(g:Bk->TG)(tt:Bk->TT)(te:Addr->Bk->TU)(J:It)(D:Addr)(σ:St)(H1:Hp)(Q:VK):Prop:=
 ∃W:Nat->Nat->St->Hp->Prop,(∃m,W 0 m (σC k D σ) (upd H1 D u0))/\∀i m σ' H',W i m σ' H'->
  (J.stop i H'/\Q (.ref D) H')\/(J.go i H'/\∃Nn:St->Hp->Prop,(∀Bg Bh,Nn Bg Bh->∃m',m'<m/\W (i+1) m' Bg Bh)/\∀x H2,J.Wm i H' x H2->∀bk:Bk,BkIn X σ bk->g bk x σ' H2 λσ2 H3=>tt bk σ2 H3 λb H4=>
   if b=true then te D bk σ2 H4 Nn else Nn σ2 H4)
noncomputable def tH(u0:HO)(X:Cx)(k:Nat)(wi:TI)(g:Bk->TG)(tt:Bk->TT)(te:Addr->Bk->TU):TE:=λσ H Q=>wi σ H λJ H1=>∀D,H1 D=none->Ke u0 X k g tt te J D σ H1 Q
abbrev rE:=tH (.lst [])
structure Ck(X:Cx)(ce tg iter:Expr)(ifs:List Expr)(rest:List Comprehension)(new:Sem Value)(u0:HO)(em:Value->Env->Sem Unit):Prop where
 cls:clausesOf ce=⟨tg,iter,ifs,0⟩::rest
 und:Cu ce
 turn:∀it D env,compTurn ce 0 it (.ref D) env=tG ce tg iter ifs 0 it (.ref D) env (em (.ref D) env)
 new:∃o0:Obj,o0.isFreed=false/\(∀{A:Around}{E Q:Value->Shared->Prop}{s:Shared},Q (.ref s⁻¹) { s with heap:=s.heap.push o0}->wpAny (model X.prog X.w) A new Q E s)/\
  ∀(H:Hp) (h:Heap) (a:Addr),h.get? a=some o0->(a==sysModules)=false->eE X.prog X.w H h a u0
 start:∀{A:Around}{R:Result->Shared->Prop}{s:Shared}{it acc:Value}{env:Env},codeAny (model X.prog X.w) A (.compLoop ce 0 it acc env) R s->
  wpAny (model X.prog X.w) A (pyIter it) (λit' s'=>codeAny (model X.prog X.w) A (.compLoop ce 0 it' acc env) R s') (notedBy (model X.prog X.w) A env λx s'=>R (.error x) s') s->codeAny (model X.prog X.w) A (.compStart ce 0 it acc env) R s
theorem nU{X:Cx}{cN tg iter:Expr}{ifs:List Expr}{rest:List Comprehension}{scope:Scope}{pos:Pos}{em:Value->Env->Sem Unit}(h:∀it acc env,compTurn (.ListComp cN (⟨tg,iter,ifs,0⟩::rest) scope pos) 0 it acc env=tG (.ListComp cN (⟨tg,iter,ifs,0⟩::rest) scope pos) tg iter ifs 0 it acc env (em acc env)) :
  Ck X (.ListComp cN (⟨tg,iter,ifs,0⟩::rest) scope pos) tg iter ifs rest (newList []) (.lst []) em where
 cls:=rfl
 und:=λ_ _ _ _ _ _ _=>⟨rfl,rfl⟩
 turn:=λit D env=>h it (.ref D) env
 new:=⟨_,rfl,λh=>oT h,λ_ _ _ e _=>⟨u4 _,[],_,.nil,e⟩⟩
 start:=codeAny_compStart_list
structure Names(N N':List Str)(scope:Scope)(k:Nat):Prop where
 len:N'.length=N.length+(k+1)
 last:∀x,N'[N.length+k]?=some x->scope.names.lookup x=none
 old:∀i x,N'[i]?=some x->i<N.length->scope.names.lookup x=none\/(N[i]?=some x/\scope.names.lookup x≠some .local)
theorem eZ:(relabel scope env).names.lookup x=(scope.names.lookup x).map λk=>if (k==NameKind.free&&env.scope.kind==.function&&env.kindOf x==some .cell)then NameKind.cell else k:=iz
section
variable{X:Cx}
theorem oN(B:bR X.env.scope scope)(h:(compEnvC scope cl C X.env).kindOf x=some .cell\/(compEnvC scope cl C X.env).kindOf x=some .free) :
  (x,NameKind.free)∈scope.names:=by
 have e:(compEnvC scope cl C X.env).kindOf x=(scope.names.lookup x).map λk=>if (k==NameKind.free&&X.env.scope.kind==.function&&X.env.kindOf x==some .cell)then NameKind.cell else k:=eZ
 rw[e]at h;cases q:scope.names.lookup x with
 |none=>rw[q]at h;rcases h with h |h <;> cases h
 |some k=>
  have hm:=mem_of_lookup q;cases k with
  |free=>exact hm
  |cell=>exact absurd rfl (B.Ew _ hm)
  |_=>rw[q]at h;rcases h with h |h <;> (simp at h)
theorem Ez(B:bR X.env.scope scope)(I:Inv X ah σ H s)(hC:s⁻¹<=C)
  (hf:∀b∈fp,oz X ah H b) (hfs:∀b∈fp,b<s⁻¹)
  (hcl:∀x c,cl.lookup x=some c->X.env.cells.lookup x=some c/\(x,NameKind.free)∈scope.names) (Kf:∀y∈scope.names,y.2=.free->∃c,cl.lookup y.1=some c):(X.block N' scope cl C s H fp).Ok where
 mod:=I.ok.mod
 kind:=B.kind
 glob:=I.ok.glob
 blt:=I.ok.blt
 above:=hC
 inj:=λx y c h1 h2=>I.ok.inj x y c (hcl x c h1).1 (hcl y c h2).1
 has:=λx h=>Kf _ (oN (cl:=cl) (C:=C) B h) rfl
 Vj:=λx c h1 h2=>by
  have e:scope.names.lookup x=some .local:=by have:(scope.names.lookup x==some NameKind.local)=true:=h1;simpa using this
  have h3:=(hcl x c h2).2;have q:=B.W4 _ h3 rfl;rw[e]at q;cases q
 hd:=I.ok.hd
 frames:=I.ok.frames
 stk:=.inl rfl
 V6:=λb hb=>⟨hZ (fI (hfs b hb) hC),λx c e=>(hf b hb).2.2.2.2.1 x c (hcl x c e).1⟩
 bs:=I.bs
 JD:=hV I.ok.JD I.sz
 Au:=λb o e hb=>by
  obtain⟨_,_,_,h3,_⟩:=hf b hb;rcases h3 with h3 |h3
  . exact I.ok.Au b o e h3
  . exact absurd (fI (eD e) (hV I.ok.JD h3)) (mB _)
 Av:=λb hb hm=>by
  rcases dS.mp (I.xE b hm)with e |e
  . exact (hf b hb).2.1 e
  . exact (hf b hb).2.2.1 e
 nI:=I.stack
 Qc:=I.zb
theorem gw{ah:List (Addr×Obj)}{σ:St}{H:Hp}{s:Shared}{N':List Str}{k:Nat}{wi:TI}{g:Bk->TG}{tt:Bk->TT}{tu:Addr->Bk->TU}{ce:Expr}{rest:List Comprehension}{new:Sem Value}{u0:HO}{cp:Pos}{em:Value->Env->Sem Unit}{use:Option (Value->Sem Unit)}{Q:Value->Shared->Prop}{Q0:VK}
  (B:bR X.env.scope scope) (hc:X.calm=true) (hN:Names X.N N' scope k) (hi:PI X tg iter wi) (ck:Ck X ce tg iter ifs rest new u0 em)
  (hin:∀(b:Bk) (D:Addr),PG (X.blk N' scope b) tg (g b)/\j7 (X.blk N' scope b) ifs (tt b)/\PU (X.blk N' scope b) (em (.ref D) (X.blk N' scope b).env) (tu D b))
  (hs:∀x,foldedSetIterable iter X.env x=pure x) (I:Inv X ah σ H s) (h:tH u0 X k wi g tt tu σ H Q0)
  (fin:∀s' H' D C m,Inv X ah σ H' s'->oz X ah H' C->s'.heap.Ns C m->Q0 (.ref D) H'->compPost (model X.prog X.w) X.A X.xe use Q (.ref D) C (.ok .next) s') :
  wpAny (model X.prog X.w) X.A (comprehension ce scope X.env cp new false (eval iter X.env) use) Q X.xe s:=by
 obtain⟨cl,hclos,hcl,Kf⟩:=xR (scope:=scope) (env:=X.env) λy hy hf=>I.ok.has y.1 (B.free y hy hf)
 refine wpAny_comprehension_free ck.cls hs hclos B.kind B.uniq (cF (hi ah s σ H _ I h) λxv s₁ h₁=>cF h₁ λitv s₂ h₂=>?_)
 obtain⟨it,fp,tn,J,H2,rfl,I2,T,aN,f2,hW⟩:=h₂;obtain⟨o0,fr0,new0,ok0⟩:=ck.new;refine new0 (wpAny_newFunctionEnv B.Ew (by intro y hy;simp at hy) (λh₁ QT Kg=>?_) B.kind)
 dsimp only at QT Kg ⊢
 generalize hH2:s₂.heap.push o0=P2 at QT Kg ⊢
 have hC:P2.objs.size=s₂⁻¹+1:=by rw[<- hH2,oC]
 have hDC:s₂⁻¹≠P2.objs.size:=by rw[hC];exact hZ (l5 _)
 have QV:s₂⁻¹<=P2.objs.size:=by rw[hC];exact wE _
 have old:∀b o,s₂.heap.get? b=some o->h₁.get? b=some o:=λb o e=>Kg.extBut b o (hZ (by rw[hC];exact tI (eD e))) (b7 _ (hH2▸b7 _ e))
 have hD0:H2 s₂⁻¹=none:=I2.hok.fresh (d5 _);have hC0:H2 P2.objs.size=none:=I2.hok.fresh QV;have nsys:(s₂⁻¹==sysModules)=false:=by
  have h1:mainGlobals<s₂⁻¹:=(I2.ok.mod.glob.keeps I2.bk).lt;refine Bool.eq_false_iff.mpr λq=>?_
  have q:=eq_of_beq q;rw[q]at h1;exact absurd h1 ⋯
 have fps:∀b∈fp,b<s₂⁻¹:=λb hb=>by
  obtain⟨o,e,_⟩:=T.obj _ _ aN b hb;exact eD e
 have ok':=Ez (N':=N') (cl:=cl) B I2 QV f2 fps hcl Kf;obtain⟨W,⟨m0,w0⟩,turn⟩:=hW s₂⁻¹ hD0;have fsub:∀b∈fp,b∉frs X.stack:=λb hb=>ok'.Av b hb
 obtain⟨hg,ht,he⟩:=hin ⟨cl,P2.objs.size,s₂,H2,fp⟩ s₂⁻¹;have I0:Inv (X.block N' scope cl P2.objs.size s₂ H2 fp) [] (σC k s₂⁻¹ σ) (upd H2 s₂⁻¹ u0) { s₂ with heap:=h₁,toks:=s₂.toks+([]:List (Str×Value)).length}:=by
  refine⟨ok',rfl,I2.bare,Un.laid old (d5 _) hD0,⟨_,QT,λi x v e1 e2 e3=>?_⟩,λx c e=>?_,?_,λx c e=>?_,λp hp=>?_,I2.hok.laid old (d5 _) ?_,?_⟩
  .
   have W5:(compEnvC scope cl P2.objs.size X.env).kindOf x=some .local\/(compEnvC scope cl P2.objs.size X.env).kindOf x=some .cell\/(compEnvC scope cl P2.objs.size X.env).kindOf x=some .free:=e3;have ek:(compEnvC scope cl P2.objs.size X.env).kindOf x=(scope.names.lookup x).map λk=>if (k==NameKind.free&&X.env.scope.kind==.function&&X.env.kindOf x==some .cell)then NameKind.cell else k:=eZ
   have V9:i<σ.length:=by
    rcases sB i σ.length with z |z
    . exact z
    .
     exfalso;unfold σC at e2;rw[eC z]at e2;rcases sB (i - σ.length) k with z2 |z2
     .
      rw[dA (by rw[i8];exact z2)]at e2
      have:=i5 e2;rw[t9]at this;exact absurd this.2 ⋯
     .
      rw[eC (by rw[i8];exact z2),i8]at e2
      have z3:i - σ.length - k=0:=by
       rcases Nat.eq_zero_or_pos (i - σ.length - k)with q |q
       . exact q
       . rw[AF (Nat.succ_le_of_lt q)]at e2;cases e2
      have z4:i=X.N.length+k:=by rw[<- I2.len];lia
      have hn:=hN.last x (by rw[<- z4];exact e1)
      rw[ek,hn]at W5;rcases W5 with q |q |q <;> cases q
   have Vn:σ[i]?=some (some v):=by unfold σC at e2;rw[dA V9]at e2;exact e2
   have hiN:i<X.N.length:=by rw[<- I2.len];exact V9
   rcases hN.old i x e1 hiN with z |⟨z,z2⟩
   . rw[ek,z]at W5;rcases W5 with q |q |q <;> cases q
   .
    have hfree:(compEnvC scope cl P2.objs.size X.env).kindOf x=some .cell\/(compEnvC scope cl P2.objs.size X.env).kindOf x=some .free:=by
     rcases W5 with q |q
     .
      exfalso;rw[ek]at q;cases hq:scope.names.lookup x with
      |none=>rw[hq]at q;cases q
      |some kk=>
       rw[hq]at q;cases kk with
       | «local»=>exact z2 hq
       |free=>simp only[A3,Option.some.injEq]at q;split at q <;> cases q
       |_=>simp at q
     . exact q
    have hm:=oN (cl:=cl) (C:=P2.objs.size) B hfree;obtain⟨c,hc1⟩:=Kf _ hm rfl;have W6:cl.lookup x=some c:=hc1;have hc2:=(hcl x c W6).1;obtain⟨m2,hn2,hl2⟩:=I2.loc;have hvis:mQ X.env.scope x:=(B.free _ hm rfl).elim (λa=>.inr (.inl a)) λa=>.inr (.inr a)
    obtain⟨u,ru,lk⟩:=hl2 i x v z Vn hvis;refine⟨u,ru,.inr ⟨hfree,c,W6,?_⟩⟩;rcases lk with ⟨q1,_⟩ |⟨_,c',q1,q2⟩
    .
     exfalso;have DK:X.env.scope.names.lookup x=some .local:=q1;rcases B.free _ hm rfl with y |y
     . have y':X.env.scope.names.lookup x=some .cell:=y;rw[DK]at y';cases y'
     . have y':X.env.scope.names.lookup x=some .free:=y;rw[DK]at y';cases y'
    . rw[hc2]at q1;cases q1;obtain⟨o,ho,hd⟩:=q2;exact⟨o,old _ _ ho,hd⟩
  . obtain⟨v,o,ho,hd⟩:=I2.cell x c (hcl x c e).1;exact⟨v,o,old _ _ ho,hd⟩
  . show upd H2 s₂⁻¹ u0 P2.objs.size=none;rw[aF (tP hDC)];exact hC0
  . have q:=I2.jx x c (hcl x c e).1;obtain⟨v,z⟩:=I2.cell x c (hcl x c e).1;rw[aF (hZ z.lt)];exact q
  . exact absurd (show p∈([]:List (Addr×Obj))from hp) ⋯
  . exact ok0 _ _ _ (Kg.extBut _ _ hDC (b7 _ (hH2▸eA _ fr0))) nsys
  . show (σC k s₂⁻¹ σ).length=N'.length;unfold σC;rw[dL,dL,i8,hN.len,I2.len];rfl
 have stat:∀{H':Hp},(∀b∈fp,H' b=none)->∀b∈fp,oz (X.block N' scope cl P2.objs.size s₂ H2 fp) [] H' b:=λhn b hb=>
  ⟨hn b hb,(ok'.V6 b hb).1,fsub b hb,.inl hb,λx c e=>(ok'.V6 b hb).2 x c e,λp hp=>absurd (show p∈([]:List (Addr×Obj))from hp) ⋯⟩
 have loop:∀s₃:Shared,s₃={ s₂ with heap:=h₁,toks:=s₂.toks+([]:List (Str×Value)).length}->
   codeAny (model X.prog X.w) X.A (.compLoop ce 0 (.ref it) (.ref s₂⁻¹) (compEnvC scope cl P2.objs.size X.env))
    (compPost (model X.prog X.w) X.A X.xe use Q (.ref s₂⁻¹) P2.objs.size) s₃:=by
  rintro s₃ rfl;refine j8 ck.und (ck.turn _ _ _) (λn s'=>∃i σ' H',Inv (X.block N' scope cl P2.objs.size s₂ H2 fp) [] σ' H' s'/\tn i s'.heap/\(∀b∈fp,H' b=none)/\W i n σ' H') ?_ m0
   ⟨0,_,_,I0,T.keep _ _ _ aN λb hb o e=>old b o e,λb hb=>?_,w0⟩
  .
   rintro n s3 ⟨i,σ3,H3,I3,eX,Ot,w3⟩;rcases turn i n σ3 H3 w3 with ⟨stop,qn⟩ |⟨go,Nn,hNn,step⟩
   .
    refine cF (T.done (X.block N' scope cl P2.objs.size s₂ H2 fp) rfl rfl rfl hc i [] s3 σ3 H3 (λ_ _=>False) I3 (stat Ot) eX stop) λr s4 ⟨hr,I4⟩=>?_
    subst hr;obtain⟨m,hm,_⟩:=id I4.loc;have I5:Inv X ah σ H3 s4:=I2.call' (ch:=fp) I4.os I4.base I4.hok I4.bare λb hb=>⟨(f2 b hb).2.2.2.1,(f2 b hb).2.1,(f2 b hb).2.2.2.2.1,(f2 b hb).2.2.2.2.2⟩
    exact fin s4 H3 _ _ m I5 (I2.xJ QV I4.free) hm qn
   .
    refine cF (T.item (X.block N' scope cl P2.objs.size s₂ H2 fp) rfl rfl rfl hc i [] s3 σ3 H3 (λ_ _=>False) I3 (stat Ot) eX go) λr s4 ⟨u,hr,h4⟩=>?_
    subst hr;refine cF h4 λ_ s5 ⟨x,H5,I5,r5,y5,lC,Wr⟩=>?_
    have Ws:=I5.pinned (stat Wr) (T.obj _ _ lC);have again:∀{σ7:St}{H7:Hp}{s7:Shared},Inv (X.block N' scope cl P2.objs.size s₂ H2 fp) ([]++lz fp s5.heap) σ7 H7 s7->Nn σ7 H7->∃m,m<n/\∃i σ' H',Inv (X.block N' scope cl P2.objs.size s₂ H2 fp) [] σ' H' s7/\tn i s7.heap/\(∀b∈fp,H' b=none)/\W i m σ' H':=λ{σ7 H7 s7} I7 n7=>by
     obtain⟨m',hm,w7⟩:=hNn σ7 H7 n7;refine⟨m',hm,i+1,σ7,H7,I7.iu,T.keep _ _ _ lC λb hb o e=>(I7.pin (b,o) (gN _ (gN _ (dQ hb e)))).1,λb hb=>?_,w7⟩
     obtain⟨o,e,d⟩:=T.obj _ _ lC b hb;exact (I7.pin (b,o) (gN _ (gN _ (dQ hb e)))).2.1
    refine cF (hg _ s5 σ3 H5 x u _ Ws r5 (step x H5 y5 ⟨cl,P2.objs.size,s₂,H2,fp⟩ ⟨ah,I2,f2⟩)) λ_ s6 ⟨σ6,H6,I6,q6⟩=>?_
    refine cF (ht _ s6 σ6 H6 _ I6 q6) λb s7 ⟨H7,I7,q7⟩=>?_
    cases b with
    |false=>
     rw[eQ hU]at q7 ⊢
     exact again I7 q7
    |true=>
     rw[eP rfl]at q7 ⊢
     exact mE (he _ s7 σ6 H7 _ I7 q7) (λ_ s9 ⟨σ9,H9,I9,q9⟩=>again I9 q9) λ_ _ z=>z
  . show upd H2 s₂⁻¹ u0 b=none;rw[aF (hZ (fps b hb))];exact (f2 b hb).1
 refine ck.start (loop _ rfl) (T.self _ 0 _ _ _ ?_ (loop _ rfl));exact T.keep _ _ _ aN λb hb o e=>old b o e
theorem Kh{N':List Str}{k:Nat}{wi:TI}{g:Bk->TG}{tt:Bk->TT}{te:Bk->TE}(B:bR X.env.scope scope)(hc:X.calm=true)(hN:Names X.N N' scope k)(hi:PI X tg iter wi)
  (hin:∀b:Bk,PG (X.blk N' scope b) tg (g b)/\j7 (X.blk N' scope b) ifs (tt b)/\PE (X.blk N' scope b) cN (te b))
  (hs:∀x,foldedSetIterable iter X.env x=pure x:=by intro _;rfl):PE X (.ListComp cN [⟨tg,iter,ifs,0⟩] scope pos) (rE X k wi g tt λD b=>qL D (te b)):=by
 intro ah s σ H Q I h;rw[eval_ListComp];refine gw (use:=none) B hc hN hi (nU (rest:=[]) (em:=λacc env=>do let _ <- call (.builtin "list.append") [acc,<- eval cN env]) λ_ _ _=>rfl) (λb D=>⟨(hin b).1,(hin b).2.1,xS (hin b).2.2 rfl⟩) hs I h λs' H' D C m I' f' hn q=>?_
 refine⟨m,hn,λh' sb=>⟨.ref D,H',?_,rfl,q⟩⟩
 obtain⟨f0,f1,f2,f3,f4,f5⟩:=f';exact I'.turned (t':=s'.toks) (λb o hb e=>(sb.2 b hb).trans e) f0 f1 f3 f4 f5
theorem zx{N':List Str}{k:Nat}{wi:TI}{g:Bk->TG}{tt:Bk->TT}{te:Bk->TE}{i:Nat}{y:Str}{py cg:Pos}(B:bR X.env.scope scope)(hc:X.calm=true)(hN:Names X.N N' scope k)(hi:PI X tg iter wi)
  (hin:∀b:Bk,PG (X.blk N' scope b) tg (g b)/\j7 (X.blk N' scope b) ifs (tt b)/\PE (X.blk N' scope b) cN (te b))
  (EY:X.N.Nodup) (hy:X.N[i]?=some y) (hl:X.env.scope.names.lookup y=some .local)
  (hsw:swapsWith (.ListComp cN [⟨tg,iter,ifs,0⟩] scope pos) (some (.Name y py)) cg.line X.env=pure true)
  (hs:∀x,foldedSetIterable iter X.env x=pure x:=by intro _;rfl):PS X (.Assign [.Name y py] (.ListComp cN [⟨tg,iter,ifs,0⟩] scope pos) cg) (JM (rE X k wi g tt λD b=>qL D (te b)) (uW i)):=by
 intro ah s σ H D0 I h;rw[exec_Assign_Name_used _ _ _ _ hsw];refine a9 (yA (a9 ?_));show wpAny _ X.A (do let _ <- comprehension (.ListComp cN [⟨tg,iter,ifs,0⟩] scope pos) scope X.env _ (newList []) false (eval iter X.env) (some (assign (.Name y py) X.env))) _ _ s
 refine a9 (mE (gw (use:=some (assign (.Name y py) X.env)) (Q:=λ_ s'=>SP X ah D0 .next s') B hc hN hi (nU (rest:=[]) (em:=λacc env=>do let _ <- call (.builtin "list.append") [acc,<- eval cN env]) λ_ _ _=>rfl) (λb D=>⟨(hin b).1,(hin b).2.1,xS (hin b).2.2 rfl⟩) hs I h λs' H' D C m I' f' hn q=>?_) (λ_ s' hq=>d6 (d6 hq)) λ_ _ e=>e)
 refine wpAny_assign_Name (lu I' EY hy (.inl hl) (v:=.ref D) rfl (λs2 I2 hsb=>?_) (.inr hl))
 obtain⟨f0,f1,f2,f3,f4,f5⟩:=f';obtain⟨a,sb,ha⟩:=hsb;have nC:C≠a:=by
  rcases ha with e |e
  . rw[e];exact f1
  . exact tP (f4 _ _ e)
 refine⟨m,hn.sameBut sb nC,λh' sb'=>⟨_,H',?_,q⟩⟩
 exact I2.turned (t':=s2.toks) (λb o hb e=>(sb'.2 b hb).trans e) f0 f1 f3 f4 f5
end
section
theorem jD
  (h0:codeAny (model prog w) A (.compLoop (.ListComp cN [⟨t1,i1,f1,0⟩,⟨target,iter,ifs,0⟩] scope pos) 1 it acc env) R s)
  (h:wpAny (model prog w) A (pyIter it) (λit' s'=>codeAny (model prog w) A (.compLoop (.ListComp cN [⟨t1,i1,f1,0⟩,⟨target,iter,ifs,0⟩] scope pos) 1 it' acc env) R s') (λ_ _=>False) s) :
  codeAny (model prog w) A (.compStart (.ListComp cN [⟨t1,i1,f1,0⟩,⟨target,iter,ifs,0⟩] scope pos) 1 it acc env) R s:=by
 refine codeAny_of_tree ?_;show wpAny _ _ ((compStart (.ListComp cN [⟨t1,i1,f1,0⟩,⟨target,iter,ifs,0⟩] scope pos) 1 it acc env).onRaise (λx=>do noteFrame x env;standAt theWindowsPlace)) _ _ s
 refine wpAny_notedAt ?_;unfold compStart;show wpAny _ _ (ask >>= _) _ _ s;refine a9 (wpAny_askSetting (wpAny_ite ?_));split
 .
  first
   |exact a9 (d6 (d6 (And.intro rfl h0)))
   |exact d6 (And.intro rfl h0)
 .
  first
   |exact a9 (wpAny_rule (a9 (yA (a9 (mE h (λit' s' h'=>d6 (And.intro rfl h')) λ_ _ x=>x.elim)))))
   | (refine a9 (wpAny_rule ?_);show wpAny _ _ (standAt iter.pos >>= _) _ _ s;exact a9 (yA (a9 (mE h (λit' s' h'=>d6 (And.intro rfl h')) λ_ _ x=>x.elim))))
end
noncomputable def Bj(cN t1 i1 tg iter:Expr)(f1 ifs:List Expr)(scope:Scope)(pos:Pos)(acc:Value)(env:Env):Sem Unit:=do
 let x <- eval iter env
 standAt iter.pos
 let x <- foldedSetIterable iter env x
 let _ <- runOwn (.compStart (.ListComp cN [⟨t1,i1,f1,0⟩,⟨tg,iter,ifs,0⟩] scope pos) 1 (<- holding [x] (pyIter x)) acc env) env
noncomputable def W7(wi:TI)(g:TG)(tt:TT)(tu:TU):TU:=λσ H Q=>wi σ H λJ H1=>∃W:Nat->Nat->St->Hp->Prop,(∃m,W 0 m σ H1)/\∀i m σ' H',W i m σ' H'->
 (J.stop i H'/\Q σ' H')\/(J.go i H'/\∃Nn:St->Hp->Prop,(∀Bg Bh,Nn Bg Bh->∃m',m'<m/\W (i+1) m' Bg Bh)/\∀x H2,J.Wm i H' x H2->g x σ' H2 λσ2 H3=>tt σ2 H3 λb H4=>if b=true then tu σ2 H4 Nn else Nn σ2 H4)
theorem Ov(hc:X.calm=true)(hx:X.xe=λ_ _=>False)(hi:PI X tg iter wi)(hg:PG X tg g)(ht:j7 X ifs tt)(he:PE X cN te)(hs:∀x,foldedSetIterable iter X.env x=pure x) :
  PU X (Bj cN t1 i1 tg iter f1 ifs scope pos (.ref D) X.env) (W7 wi g tt (qL D te)):=by
 intro ah s σ H Q I h;have hi:=hi ah s σ H _ I h;rw[hx]at hi;unfold Bj;refine a9 (mE hi (λv s1 h1=>?_) λ_ _ z=>z)
 refine a9 (yA ?_);rw[hs v];refine a9 (d6 ?_);refine a9 (kA (mE h1 (λitv s2 h2=>?_) λ_ _ z=>z))
 obtain⟨it,fp,tn,J,H2,rfl,I2,T,aN,f2,W,⟨m0,w0⟩,turn⟩:=h2;have stat:∀{H':Hp},(∀b∈fp,H' b=none)->∀b∈fp,oz X ah H' b:=λhn b hb=>⟨hn b hb,(f2 b hb).2⟩
 have loop:codeAny (model X.prog X.w) X.A (.compLoop (.ListComp cN [⟨t1,i1,f1,0⟩,⟨tg,iter,ifs,0⟩] scope pos) 1 (.ref it) (.ref D) X.env) (λr s'=>match r with |.ok f=>∃σ' H',Inv X ah σ' H' s'/\Q σ' H' |.error e=>False) s2:=by
  refine j8 (λ_ _ _ _ _ _ _=>⟨rfl,rfl⟩) (target:=tg) (iter:=iter) (ifs:=ifs) (em:=do let _ <- call (.builtin "list.append") [.ref D,<- eval cN X.env]) rfl (λn s'=>∃i σ' H',Inv X ah σ' H' s'/\tn i s'.heap/\(∀b∈fp,H' b=none)/\W i n σ' H') ?_ m0 ⟨0,σ,H2,I2,aN,λb hb=>(f2 b hb).1,w0⟩
  rintro n s3 ⟨i,σ3,H3,I3,eX,Ot,w3⟩;rcases turn i n σ3 H3 w3 with ⟨stop,qn⟩ |⟨go,Nn,hN,step⟩
  .
   refine cF (T.done X rfl rfl rfl hc i ah s3 σ3 H3 (λ_ _=>False) I3 (stat Ot) eX stop) λr s4 ⟨hr,I4⟩=>?_
   subst hr;exact⟨σ3,H3,I4,qn⟩
  .
   refine cF (T.item X rfl rfl rfl hc i ah s3 σ3 H3 (λ_ _=>False) I3 (stat Ot) eX go) λr s4 ⟨u,hr,h4⟩=>?_
   subst hr;refine cF h4 λ_ s5 ⟨x,H5,I5,r5,y5,lC,Wr⟩=>?_
   have Ws:=I5.pinned (stat Wr) (T.obj _ _ lC);have again:∀{σ7:St}{H7:Hp}{s7:Shared},Inv X (ah++lz fp s5.heap) σ7 H7 s7->Nn σ7 H7->∃m,m<n/\∃i σ' H',Inv X ah σ' H' s7/\tn i s7.heap/\(∀b∈fp,H' b=none)/\W i m σ' H':=λ{σ7 H7 s7} I7 n7=>by
    obtain⟨m',hm,w7⟩:=hN σ7 H7 n7;refine⟨m',hm,i+1,σ7,H7,I7.iu,T.keep _ _ _ lC λb hb o e=>(I7.pin (b,o) (gN _ (gN _ (dQ hb e)))).1,λb hb=>?_,w7⟩
    obtain⟨o,e,d⟩:=T.obj _ _ lC b hb;exact (I7.pin (b,o) (gN _ (gN _ (dQ hb e)))).2.1
   have hg:=hg _ s5 σ3 H5 x u _ Ws r5 (step x H5 y5);rw[hx]at hg;refine cF hg λ_ s6 ⟨σ6,H6,I6,q6⟩=>?_
   have ht:=ht _ s6 σ6 H6 _ I6 q6;rw[hx]at ht;refine cF ht λb s7 ⟨H7,I7,q7⟩=>?_
   cases b with
   |false=>
    rw[eQ hU]at q7 ⊢
    exact again I7 q7
   |true=>
    rw[eP rfl]at q7 ⊢
    exact mE (xS he hx _ s7 σ6 H7 _ I7 q7) (λ_ s9 ⟨σ9,H9,I9,q9⟩=>again I9 q9) λ_ _ z=>z
 have start:=jD loop (T.self _ 0 _ _ _ aN loop);refine a9 (wpAny_runOwn (codeAny_mono start λr s' hr=>?_))
 cases r with
 |error e=>exact hr.elim
 |ok f=>exact d6 hr
theorem vf:compTurn (.ListComp cN [⟨t1,i1,f1,0⟩,⟨tg,iter,ifs,0⟩] scope pos) 0 it acc env=tG (.ListComp cN [⟨t1,i1,f1,0⟩,⟨tg,iter,ifs,0⟩] scope pos) t1 i1 f1 0 it acc env (Bj cN t1 i1 tg iter f1 ifs scope pos acc env):=by
 show (standAt i1.pos >>= λ_=>pyNext it >>= λr=>_)=(standAt i1.pos >>= λ_=>pyNext it >>= λr=>_)
 congr 1;funext _;congr 1;funext r
 cases r with
 |none=>rfl
 |some v=>
  show (letOwnedTupleGo t1 it v >>= λ_=>assign t1 env v >>= λ_=>_ >>= λok=>_)=(letOwnedTupleGo t1 it v >>= λ_=>assign t1 env v >>= λ_=>_ >>= λok=>_)
  congr 1;funext _;congr 1;funext _;congr 1;funext ok
  cases ok with
  |false=>rfl
  |true=>unfold Bj;simp only[bind_assoc,u7];rfl
section
theorem Fb{N':List Str}{k:Nat}{w1:TI}{w2:Bk->TI}{g1 g2:Bk->TG}{W8 W9:Bk->TT}{te:Bk->TE}(B:bR X.env.scope scope)(hc:X.calm=true)(hN:Names X.N N' scope k)(hi:PI X t1 i1 w1)
  (hin:∀b:Bk,(PG (X.blk N' scope b) t1 (g1 b)/\j7 (X.blk N' scope b) f1 (W8 b))/\PI (X.blk N' scope b) tg iter (w2 b)/\PG (X.blk N' scope b) tg (g2 b)/\j7 (X.blk N' scope b) ifs (W9 b)/\PE (X.blk N' scope b) cN (te b))
  (hs:∀x,foldedSetIterable i1 X.env x=pure x) (hs2:∀(b:Bk) x,foldedSetIterable iter (X.blk N' scope b).env x=pure x) :
  PE X (.ListComp cN [⟨t1,i1,f1,0⟩,⟨tg,iter,ifs,0⟩] scope pos) (rE X k w1 g1 W8 λD b=>W7 (w2 b) (g2 b) (W9 b) (qL D (te b))):=by
 intro ah s σ H Q I h;rw[eval_ListComp];refine gw (use:=none) B hc hN hi (nU (rest:=[⟨tg,iter,ifs,0⟩]) (em:=λacc env=>Bj cN t1 i1 tg iter f1 ifs scope pos acc env) λ_ _ _=>vf) (λb D=>⟨(hin b).1.1,(hin b).1.2,Ov hc rfl (hin b).2.1 (hin b).2.2.1 (hin b).2.2.2.1 (hin b).2.2.2.2 (hs2 b)⟩) hs I h λs' H' D C m I' f' hn q=>?_
 refine⟨m,hn,λh' sb=>⟨.ref D,H',?_,rfl,q⟩⟩
 obtain⟨f0,f1,f2,f3,f4,f5⟩:=f';exact I'.turned (t':=s'.toks) (λb o hb e=>(sb.2 b hb).trans e) f0 f1 f3 f4 f5
theorem Fc{N':List Str}{k:Nat}{w1:TI}{w2:Bk->TI}{g1 g2:Bk->TG}{W8 W9:Bk->TT}{te:Bk->TE}{i:Nat}{y:Str}{py cg:Pos}(B:bR X.env.scope scope)(hc:X.calm=true)(hN:Names X.N N' scope k)(hi:PI X t1 i1 w1)
  (hin:∀b:Bk,(PG (X.blk N' scope b) t1 (g1 b)/\j7 (X.blk N' scope b) f1 (W8 b))/\PI (X.blk N' scope b) tg iter (w2 b)/\PG (X.blk N' scope b) tg (g2 b)/\j7 (X.blk N' scope b) ifs (W9 b)/\PE (X.blk N' scope b) cN (te b))
  (EY:X.N.Nodup) (hy:X.N[i]?=some y) (hl:X.env.scope.names.lookup y=some .local)
  (hsw:swapsWith (.ListComp cN [⟨t1,i1,f1,0⟩,⟨tg,iter,ifs,0⟩] scope pos) (some (.Name y py)) cg.line X.env=pure true)
  (hs:∀x,foldedSetIterable i1 X.env x=pure x) (hs2:∀(b:Bk) x,foldedSetIterable iter (X.blk N' scope b).env x=pure x) :
  PS X (.Assign [.Name y py] (.ListComp cN [⟨t1,i1,f1,0⟩,⟨tg,iter,ifs,0⟩] scope pos) cg) (JM (rE X k w1 g1 W8 λD b=>W7 (w2 b) (g2 b) (W9 b) (qL D (te b))) (uW i)):=by
 intro ah s σ H D0 I h;rw[exec_Assign_Name_used _ _ _ _ hsw];refine a9 (yA (a9 ?_));show wpAny _ X.A (do let _ <- comprehension (.ListComp cN [⟨t1,i1,f1,0⟩,⟨tg,iter,ifs,0⟩] scope pos) scope X.env _ (newList []) false (eval i1 X.env) (some (assign (.Name y py) X.env))) _ _ s
 refine a9 (mE (gw (use:=some (assign (.Name y py) X.env)) (Q:=λ_ s'=>SP X ah D0 .next s') B hc hN hi (nU (rest:=[⟨tg,iter,ifs,0⟩]) (em:=λacc env=>Bj cN t1 i1 tg iter f1 ifs scope pos acc env) λ_ _ _=>vf) (λb D=>⟨(hin b).1.1,(hin b).1.2,Ov hc rfl (hin b).2.1 (hin b).2.2.1 (hin b).2.2.2.1 (hin b).2.2.2.2 (hs2 b)⟩) hs I h λs' H' D C m I' f' hn q=>?_) (λ_ s' hq=>d6 (d6 hq)) λ_ _ e=>e)
 refine wpAny_assign_Name (lu I' EY hy (.inl hl) (v:=.ref D) rfl (λs2 I2 hsb=>?_) (.inr hl))
 obtain⟨f0,f1,f2,f3,f4,f5⟩:=f';obtain⟨a,sb,ha⟩:=hsb;have nC:C≠a:=by
  rcases ha with e |e
  . rw[e];exact f1
  . exact tP (f4 _ _ e)
 refine⟨m,hn.sameBut sb nC,λh' sb'=>⟨_,H',?_,q⟩⟩
 exact I2.turned (t':=s2.toks) (λb o hb e=>(sb'.2 b hb).trans e) f0 f1 f3 f4 f5
end
section
variable{X:Cx}{ah:List (Addr×Obj)}{σ:St}{H:Hp}{s:Shared}
abbrev Zn (X:Cx):=tupleKind (gP X.prog X.w)
theorem lF:∀{ks:List Key}{aA:List Value},Vals (ks.map kV) aA->PySem.ItemsAre (gP X.prog X.w) ks aA
 | [],_,.nil=>.nil
 |.inl i::ks,_,.cons h r=>by obtain⟨t,rfl⟩:=h;exact .cons (uQ _ _ _ _) (lF r)
 |.inr x::ks,_,.cons h r=>by obtain⟨t,rfl⟩:=h;exact .cons (uR _ _ _ _) (lF r)
theorem Inv.xT{a:Addr}{ks:List Key}(I:Inv X ah σ H s)(h:fy X.K H a (ks.map kV)):(Zn X).is s.heap ks a:=by obtain⟨aA,r,⟨o,e,c,n,d⟩,_⟩:=I.tuple h;exact⟨o,aA.toArray,n,e,c,d,by simpa using lF r⟩
theorem jE{α β:Type}{F:α->β->Prop}:∀{l:List α}{m:List β},Paired F l m->∀b∈m,∃a∈l,F a b
 |_,_,.cons h r,b,hb=>(dS.mp hb).elim (λe=>⟨_,bP,e▸h⟩) λe=>let ⟨a,h1,h2⟩:=jE r b e;⟨a,aS _ h1,h2⟩
noncomputable def atK{α:Type}(l:List (List Key×α))(ks:List Key):Option α:=(l.find? λp=>decide (p.1=ks)).map (·.2)
theorem mS{F:List Key×V->List Key×Addr×Value->Prop}(hF:∀p q,F p q->p.1=q.1/\RelV p.2 q.2.2){ks:List Key}{v:V}:∀{l:List (List Key×V)}{m:List (List Key×Addr×Value)},Paired F l m->atK l ks=some v->∃p,atKey m ks=some p/\RelV v p.2
 | (k,x)::l,(k',a,u)::m,.cons h r,e=>by
  obtain⟨e1,e2⟩:=hF _ _ h;have e1:k=k':=e1;subst e1;unfold atK at e;unfold atKey;rw[List.find?_cons]at e ⊢
  by_cases hk:k=ks
  .
   rw[show decide (k=ks)=true from lL hk]at e ⊢
   cases e;exact⟨(a,u),rfl,e2⟩
  .
   rw[show decide (k=ks)=false from l6 hk]at e ⊢
   exact mS hF r e
theorem Inv.Ow{d:Addr}{eT:List (List Key×V)}(I:Inv X ah σ H s)(h:H d=some (.dT eT)):∃xs,s.heap.DictOfH (Zn X) d xs/\Paired (λ(p:List Key×V) (q:List Key×Addr×Value)=>p.1=q.1/\H q.2.1=some (.tup (p.1.map kV))/\RelV p.2 q.2.2) eT xs/\eT.length<=sizeLine/\(d==sysModules)=false:=by
 obtain⟨hz,hs,xs,pr,o,es,ep,e1,e2,e3,e4,e5⟩:=(show eE X.prog X.w H s.heap d (.dT eT)from I.hok d _ h);refine⟨xs,⟨o,es,ep,e1,e2,e3,e4,λx hx=>?_,e5⟩,pr,hz,hs⟩
 obtain⟨p,_,q1,q2,_⟩:=jE pr x hx;rw[<- q1];exact I.xT (.inl (.inl q2))
def rIxD(K:Frag):R2:=λx y H Q=>∃p a eT ks v,x=.ref p/\y=.ref a/\H p=some (.dT eT)/\fy K H a (ks.map kV)/\atK eT ks=some v/\Q v H
theorem Kl(hu:X.A.units+1<cLine):WX X (rIxD X.K):=by
 intro value slice ah s σ H x y v u Q I rx ry h hs;obtain⟨p,a,eT,ks,z,rfl,rfl,hp,ha,he,q⟩:=h;cases rx;cases ry;obtain⟨xs,dh,pr,hz,hy⟩:=I.Ow hp;obtain⟨w,w1,w2⟩:=mS (λ_ _ h=>⟨h.1,h.2.2⟩) pr he
 have fin:EP X ah σ Q w.2 { s with toks:=s.toks+(Zn X).draws ks}:=⟨z,H,I.tok _,w2,q⟩;exact subscriptTail_builtinR (x:=w.2) dh.typeIs slot_dict_getitem.lookup (wpAny_getItem_heap (Q:=λr s'=>r=w.2/\EP X ah σ Q r s') (tupleKind_room_in1 hu) (I.xT ha) dh w1 ⟨rfl,fin⟩) hs
def QW(D:Addr)(tk tv:TE):TU:=λσ H Q=>tk σ H λk H4=>tv σ H4 λv H5=>∃(eT:List (List Key×V)) (a:Addr) (ks:List Key),k=.ref a/\H5 D=some (.dT eT)/\H5 a=some (.tup (ks.map kV))/\ks∉eT.map (·.1)/\eT.length<sizeLine/\Q σ (upd H5 D (.dT (eT++[(ks,v)])))
noncomputable abbrev Ox (kx vx:Expr) (acc:Value) (env:Env):Sem Unit:=do
 let kv <- eval kx env
 let vv <- holding [kv] (eval vx env)
 standAt { kx.pos with endLine:=vx.pos.endLine,endCol:=vx.pos.endCol}
 match acc with
 |.ref D=>holding [kv,vv] (dictSet D kv vv)
 |_=>pure ()
theorem QX{D:Addr}{kx vx:Expr}{tk tv:TE}(hu:X.A.units<cLine)(hk:PE X kx tk)(hv:PE X vx tv)(hx:X.xe=λ_ _=>False):PU X (Ox kx vx (.ref D) X.env) (QW D tk tv):=by
 intro ah s σ H Q I h;have hk:=hk ah s σ H _ I h;rw[hx]at hk;refine a9 (mE hk (λkv s4 ⟨k,H4,I4,r4,q4⟩=>?_) λ_ _ z=>z)
 have hv:=hv ah s4 σ H4 _ I4 q4;rw[hx]at hv;refine a9 (kA (mE hv (λvv s5 ⟨v,H5,I5,r5,eT,a,ks,e0,hD,ha,hn,hz,q⟩=>?_) λ_ _ z=>z))
 subst e0;cases r4;refine a9 (yA (kA ?_));obtain⟨xs,dh,pr,_,hy⟩:=I5.Ow hD;have aJ:eT.length=xs.length:=Paired.length pr;have hno:atKey xs ks=none:=by
  cases e:atKey xs ks with
  |none=>rfl
  |some p=>exfalso;obtain⟨x,x1,x2⟩:=sK.mp e;obtain⟨y,y1,y2,_⟩:=jE pr x (List.mem_of_find?_eq_some x1);have x3:=List.find?_some x1;exact hn (fA.mpr ⟨y,y1,y2.trans (l4 x3)⟩)
 refine wpAny_dictSet_heap (knd:=Zn X) (show X.A.units<cLine from hu) (I5.xT (.inl (.inl ha))) dh (λh' m' sb=>?_) ⋯
 rw[storedH_new hno]at m';obtain⟨o,es,ep,f1,f2,f3,f4,f5,f6⟩:=m';have ne:∀{b:Addr}{ys:List V},H5 b=some (.tup ys)->b≠D:=λe z=>by rw[z,hD]at e;cases e
 refine⟨σ,_,I5.write (o:=.dT (eT++[(ks,v)])) (by rw[hD];trivial) (.inl rfl) (λb u hb e=>(sb.2 b hb).trans e) ⟨o,f1⟩ ?_,q⟩
 refine⟨by rw[dL];exact hz,hy,xs++[(ks,a,vv)],?_,o,es,ep,f1,f2,f3,f4,f6⟩
 refine Paired.snoc (Paired.P9 pr λp q ⟨g1,g2,g3⟩=>⟨g1,by rw[aF (ne g2)];exact g2,g3⟩) ⟨rfl,by rw[aF (ne ha)];exact ha,r5⟩
end
section
variable{X:Cx}{tg iter kx vx:Expr}{ifs:List Expr}{scope:Scope}{pos:Pos}
theorem Km:Ck X (.DictComp kx vx [⟨tg,iter,ifs,0⟩] scope pos) tg iter ifs [] newDict (.dT []) (Ox kx vx) where
 cls:=rfl
 und:=λ_ _ _ _ _ _ _=>⟨rfl,rfl⟩
 turn:=λit D env=>compTurn_dict kx vx tg iter ifs scope pos it D env
 new:=⟨_,rfl,λh=>oT h,λ_ _ _ e y=>⟨u4 _,y,[],.nil,_,#[],0,e,⟨rfl,rfl,rfl⟩,rfl,rfl,vS⟩⟩
 start:=codeAny_compStart_dict
theorem Fd{N':List Str}{k:Nat}{wi:TI}{g:Bk->TG}{tt:Bk->TT}{tk tv:Bk->TE}(B:bR X.env.scope scope)(hc:X.calm=true)(hu:X.A.units<cLine)(hN:Names X.N N' scope k)(hi:PI X tg iter wi)
  (hin:∀b:Bk,PG (X.blk N' scope b) tg (g b)/\j7 (X.blk N' scope b) ifs (tt b)/\PE (X.blk N' scope b) kx (tk b)/\PE (X.blk N' scope b) vx (tv b))
  (hs:∀x,foldedSetIterable iter X.env x=pure x:=by intro _;rfl):PE X (.DictComp kx vx [⟨tg,iter,ifs,0⟩] scope pos) (tH (.dT []) X k wi g tt λD b=>QW D (tk b) (tv b)):=by
 intro ah s σ H Q I h;rw[arm_eval_DictComp];refine gw (use:=none) B hc hN hi Km (λb D=>⟨(hin b).1,(hin b).2.1,QX hu (hin b).2.2.1 (hin b).2.2.2 rfl⟩) hs I h λs' H' D C m I' f' hn q=>?_
 refine⟨m,hn,λh' sb=>⟨.ref D,H',?_,rfl,q⟩⟩
 obtain⟨f0,f1,f2,f3,f4,f5⟩:=f';exact I'.turned (t':=s'.toks) (λb o hb e=>(sb.2 b hb).trans e) f0 f1 f3 f4 f5
end
end L2
namespace Ev
open L2
inductive D where
 |non |bl (b:Bool) |int (i:Int) |str (x:Str) |tup (l:List D) |lst (l:List D) |fix (l:List D) |emp |DN (C:Addr) |vg (ks:List (List Int)) (ds:List D)
 deriving Inhabited
inductive Slot where
 |no |dat (d:D) |own (l:List D)
 deriving Inhabited
inductive R where
 |dat (d:D) |new (l:List D) |var (i:Nat)
 deriving Inhabited
abbrev G:=List Slot
abbrev Sg:=L2.St
abbrev K0:Hp:=λ_=>none
def LstAt(M:List Addr)(H:Hp)(a:Addr)(xs:List V):Prop:=a∉M/\H a=some (.lst xs)
def oO(K:Frag)(M:List Addr)(H:Hp)(a:Addr)(xs:List V):Prop:=(a∉M/\∃o,H a=some (.Dy o (.lst xs)))\/bY K K0 a xs
def TupAt(K:Frag)(M:List Addr)(H:Hp)(a:Addr)(xs:List V):Prop:=(a∉M/\Rd H a (.tup xs))\/(fy K K0 a xs/\∃o,K.lookup a=some o/\o.dict=none)
theorem rd0(h:Rd K0 a u):False:=by rcases h with h |⟨o,h⟩ <;> cases h
theorem oO.sq{K:Frag}{M:List Addr}{H:Hp}{a:Addr}{xs:List V}(h:oO K M H a xs):bY K H a xs:=by
 rcases h with ⟨_,o,h⟩ |h |h
 . exact .inl (.inr ⟨o,h⟩)
 . exact (rd0 h).elim
 . exact .inr h
theorem TupAt.sq{K:Frag}{M:List Addr}{H:Hp}{a:Addr}{xs:List V}(h:TupAt K M H a xs):fy K H a xs:=by
 rcases h with ⟨_,h⟩ |⟨h |h,_⟩
 . exact .inl h
 . exact (rd0 h).elim
 . exact .inr h
noncomputable abbrev ExnO(C a:Addr):HO:=.ext λh=>∃o,h.get? a=some o/\o.cls=.ref C/\PySem.W.notCls o=true/\o.dict=none
structure Xa(K:Frag)(C:Addr):Prop where
 gga:PySem.W.findIn K (.ref C) "__getattribute__"=some (some (.builtin "BaseException.__getattribute__"))
 gat:PySem.W.findIn K (.ref C) "__getattr__"=some none
 bas:PySem.W.mroIn K C (.type "BaseException")=some true
 dct:PySem.W.hasDictIn K C=true
 cls:PySem.W.findIn K (.ref C) "__class__"=some (some (.builtin "object.__class__"))
 spc:PySem.W.specialIn K (.builtin "object.__class__") "__get__"=some (some (.builtin "getset_descriptor.__get__"))
 tks:PySem.W.takesIn K (.builtin "object.__class__")=some true
 mro:PySem.W.mroIn K C (.type "object")=some true
 kit:∀n∈["int", "bool", "str", "tuple", "list", "dict"],PySem.W.kitOne K (.ref C) (.type n)=some false
noncomputable abbrev Fe(ks:List (List Int))(vs:List V):HO:=.dT ((ks.map (List.map Sum.inl)).zip vs)
def Xc:HO->Prop
 |.lst _ |.dT _=>True
 |_=>False
mutual
inductive Rep(K:Frag)(M:List Addr)(H:Hp):D->V->Prop
 |non:Rep K M H .non .non
 |bl (b:Bool):Rep K M H (.bl b) (.bl b)
 |int (i:Int):Rep K M H (.int i) (.int i)
 |str (x:Str):Rep K M H (.str x) (.str x)
 |tup {l:List D}{a:Addr}{xs:List V}:TupAt K M H a xs->aH K M H l xs->Rep K M H (.tup l) (.ref a)
 |lst {l:List D}{a:Addr}{xs:List V}:LstAt M H a xs->aH K M H l xs->Rep K M H (.lst l) (.ref a)
 |fix {l:List D}{a:Addr}{xs:List V}:oO K M H a xs->aH K M H l xs->Rep K M H (.fix l) (.ref a)
 |emp:a∉M->H a=some (.dK [])->Rep K M H .emp (.ref a)
 |DN:Xa K C->a∉M->H a=some (ExnO C a)->Rep K M H (.DN C) (.ref a)
 |vg {ks:List (List Int)}{ds:List D}{a:Addr}{vs:List V}:a∉M->H a=some (Fe ks vs)->ks.length=vs.length->aH K M H ds vs->Rep K M H (.vg ks ds) (.ref a)
inductive aH(K:Frag)(M:List Addr)(H:Hp):List D->List V->Prop
 |nil:aH K M H [] []
 |cons {d:D}{ds:List D}{x:V}{xs:List V}:Rep K M H d x->aH K M H ds xs->aH K M H (d::ds) (x::xs)
end
def az(M:List Addr)(H:Hp)(M':List Addr)(H':Hp):Prop:=∀b o,H b=some o->b∉M->H' b=some o/\b∉M'
theorem az.rd(h:az M H M' H')(n:a∉M)(r:Rd H a u):a∉M'/\Rd H' a u:=by
 rcases r with r |⟨o,r⟩
 . exact⟨(h _ _ r n).2,.inl (h _ _ r n).1⟩
 . exact⟨(h _ _ r n).2,.inr ⟨o,(h _ _ r n).1⟩⟩
theorem Rep.stay{K:Frag}{M M':List Addr}{H H':Hp}(h:az M H M' H'){d:D}{v:V}(r:Rep K M H d v):Rep K M' H' d v:=by
 refine Rep.rec (motive_1:=λd v _=>Rep K M' H' d v) (motive_2:=λds vs _=>aH K M' H' ds vs) .non .bl .int .str (λt _ q=>?_) (λt _ q=>?_) (λt _ q=>?_) (λn r=>.emp (h _ _ r n).2 (h _ _ r n).1) (λx n r=>.DN x (h _ _ r n).2 (h _ _ r n).1) (λn r l _ q=>.vg (h _ _ r n).2 (h _ _ r n).1 l q) .nil (λ_ _ a b=>.cons a b) r
 .
  rcases t with t |t
  . exact .tup (.inl (h.rd t.1 t.2)) q
  . exact .tup (.inr t) q
 . exact .lst ⟨(h _ _ t.2 t.1).2,(h _ _ t.2 t.1).1⟩ q
 .
  rcases t with ⟨n,o,r⟩ |t
  . exact .fix (.inl ⟨(h _ _ r n).2,o,(h _ _ r n).1⟩) q
  . exact .fix (.inr t) q
theorem aH.stay{K:Frag}{M M':List Addr}{H H':Hp}(h:az M H M' H'):∀{ds:List D}{vs:List V},aH K M H ds vs->aH K M' H' ds vs:=by
 intro ds
 induction ds with
 |nil=>intro vs q;cases q;exact .nil
 |cons d ds ih=>intro vs q;cases q with |cons a b=>exact .cons (a.stay h) (ih b)
theorem az.refl(M:List Addr)(H:Hp):az M H M H:=λ_ _ e n=>⟨e,n⟩
theorem az.trans(a:az M H M1 H1)(b:az M1 H1 M2 H2):az M H M2 H2:=λc o e n=>b c o (a c o e n).1 (a c o e n).2
theorem az.less(h:∀m∈M',m∈M):az M H M' H:=λ_ _ e n=>⟨e,λz=>n (h _ z)⟩
theorem az.laid(hp:H p=none):az M H M (upd H p o):=λb u e n=>⟨by rw[aF (aO e hp)];exact e,n⟩
theorem az.aW(hp:H p=none):az M H (p::M) (upd H p o):=λb u e n=>
 ⟨by rw[aF (aO e hp)];exact e,λz=>(dS.mp z).elim (λq=>aO e hp q) n⟩
theorem az.write(hp:p∈M):az M H M (upd H p o):=λb u e n=>⟨by rw[aF (λq=>n (by rw[q];exact hp))];exact e,n⟩
theorem aH.length{K:Frag}{M:List Addr}{H:Hp}{ds:List D}{vs:List V}(r:aH K M H ds vs):ds.length=vs.length:=by
 induction ds generalizing vs with
 |nil=>cases r;rfl
 |cons d ds ih=>cases r with |cons a b=>exact congrArg (· + 1) (ih b)
theorem aH.append{K:Frag}{M:List Addr}{H:Hp}{ds es:List D}{vs ws:List V}(r:aH K M H ds vs)(s:aH K M H es ws):aH K M H (ds++es) (vs++ws):=by
 induction ds generalizing vs with
 |nil=>cases r;exact s
 |cons d ds ih=>cases r with |cons a b=>exact .cons a (ih b)
theorem aH.get{K:Frag}{M:List Addr}{H:Hp}{ds:List D}{vs:List V}{i:Nat}{d:D}(r:aH K M H ds vs)(e:ds[i]?=some d):∃v,vs[i]?=some v/\Rep K M H d v:=by
 induction ds generalizing vs i with
 |nil=>exact nomatch (show none=some d from e)
 |cons d' ds ih=>cases r with |cons a b=>cases i with
  |zero=>cases (show some d'=some d from e);exact⟨_,rfl,a⟩
  |succ i=>obtain⟨v,h⟩:=ih (i:=i) b e;exact⟨v,h⟩
theorem aH.set{K:Frag}{M:List Addr}{H:Hp}{d:D}{v:V}(r:Rep K M H d v){ds:List D}{vs:List V}(i:Nat)(q:aH K M H ds vs):aH K M H (ds.set i d) (vs.set i v):=by
 induction ds generalizing vs i with
 |nil=>cases q;exact .nil
 |cons d' ds ih=>cases q with |cons a b=>cases i with
  |zero=>exact .cons r b
  |succ i=>exact .cons a (ih i b)
theorem aH.take{K:Frag}{M:List Addr}{H:Hp}{ds:List D}{vs:List V}(n:Nat)(q:aH K M H ds vs):aH K M H (ds.take n) (vs.take n):=by
 induction ds generalizing vs n with
 |nil=>cases q;rw[List.take_nil,List.take_nil];exact .nil
 |cons d' ds ih=>cases q with |cons a b=>cases n with
  |zero=>exact .nil
  |succ n=>exact .cons a (ih n b)
theorem aH.drop{K:Frag}{M:List Addr}{H:Hp}{ds:List D}{vs:List V}(n:Nat)(q:aH K M H ds vs):aH K M H (ds.drop n) (vs.drop n):=by
 induction ds generalizing vs n with
 |nil=>cases q;rw[List.drop_nil,List.drop_nil];exact .nil
 |cons d' ds ih=>cases q with |cons a b=>cases n with
  |zero=>exact .cons a b
  |succ n=>exact ih n b
inductive Slots(K:Frag)(M:List Addr)(H:Hp):G->Sg->List Addr->Prop
 |nil:Slots K M H [] [] []
 |no:Slots K M H g σ As->Slots K M H (.no::g) (v::σ) As
 |dat {g:G}{σ:Sg}{As:List Addr}{v:V}{d:D}:Rep K M H d v->Slots K M H g σ As->Slots K M H (.dat d::g) (some v::σ) As
 |own {g:G}{σ:Sg}{As:List Addr}{a:Addr}{xs:List V}{ds:List D}:H a=some (.lst xs)->aH K M H ds xs->Slots K M H g σ As->Slots K M H (.own ds::g) (some (.ref a)::σ) (a::As)
theorem Slots.stay{K:Frag}{M M':List Addr}{H H':Hp}(h:az M H M' H'){g:G}{σ:Sg}{As:List Addr}(k:∀a∈As,∀o,H a=some o->H' a=some o)(q:Slots K M H g σ As):Slots K M' H' g σ As:=by
 induction q with
 |nil=>exact .nil
 |no q ih=>exact .no (ih k)
 |dat r q ih=>exact .dat (r.stay h) (ih k)
 |own e r q ih=>exact .own (k _ bP _ e) (r.stay h) (ih λa ha=>k a (aS _ ha))
def fY(K:Frag):List (Addr×Str):=K.filterMap λp=>match p.2.data with
 |.fields vs=>(match vs.toList with
  |_::.str n _::_=>if (n==("law":Str))=true then (match vs.toList[11]? with
   |some (Value.ref q)=>if (K.lookup q).isNone=true then some (q,("law.<locals>.<lambda>":Str))else none
   |_=>none)else none
  |_=>none)
 |_=>none
structure Z where
 K:Frag
 H0:Hp
 M0:List Addr
 lent:List (Nat×Addr)
 T:List (Addr×Str)
abbrev LamC(q:Str)(c:Addr):HO:=.ext λh=>h.CodeRec (.ref c) q
def TabOk(H:Hp)(p:Addr×Str):Prop:=∃ps:Array Value,H p.1=some (.Dz ps)/\TriplesOk ps.toList/\∀pos cv,codeAmong pos ps.toList=some cv->∃c,cv=.ref c/\H c=some (LamC p.2 c)
noncomputable abbrev Z.TA(z:Z):List Addr:=z.T.map (·.1)
theorem TabOk.keep{H H':Hp}{p:Addr×Str}(t:TabOk H p)(k:∀b o,H b=some o->¬ Xc o->H' b=some o):TabOk H' p:=by obtain⟨ps,h1,h2,h3⟩:=t;exact⟨ps,k _ _ h1 id,h2,λpos cv e=>let ⟨c,e1,e2⟩:=h3 pos cv e;⟨c,e1,k _ _ e2 id⟩⟩
noncomputable abbrev Z.B(z:Z):List Addr:=z.lent.map (·.2)
abbrev Z.bor(z:Z):List Nat:=z.lent.map (·.1)
structure S(z:Z)(g:G)(σ:Sg)(As M:List Addr)(H:Hp):Prop where
 sl:Slots z.K M H g σ As
 nd:As.Nodup
 sub:∀a∈As,a∈M
 own:∀(i:Nat) (a:Addr) (l:List D),g[i]?=some (.own l)->σ[i]?=some (some (.ref a))->(i∈z.bor/\a∈z.B)\/z.H0 a=none
 live:∀m∈M,(∃o,H m=some o/\Xc o)\/m∈z.TA
 keep:∀b o,z.H0 b=some o->b∉z.B->b∉z.TA->H b=some o
 lG:∀m∈z.M0,m∈M
 m0:∀m∈z.M0,z.H0 m≠none
 bm:∀b∈z.B,b∈z.M0
 jF:∀p∈z.lent,σ[p.1]?=some (some (.ref p.2))/\∃l,g[p.1]?=some (.own l)
 tab:∀p∈z.T,TabOk H p
 tm:∀p∈z.T,p.1∈z.M0
 tt:z.T=fY z.K
section
variable{g:G}
theorem S.fresh(s:S z g σ As M H)(hp:H p=none):p∉M:=λhm=>by
 rcases s.live p hm with ⟨o,e,_⟩ |e
 . rw[hp]at e;cases e
 . obtain⟨q,hq,rfl⟩:=fA.mp e;obtain⟨ps,h1,_⟩:=s.tab q hq;rw[hp]at h1;cases h1
theorem S.Xd(s:S z g σ As M H)(hp:H p=some (.lst xs)):p∉z.TA:=λe=>by
 obtain⟨q,hq,rfl⟩:=fA.mp e;obtain⟨ps,h1,_⟩:=s.tab q hq;rw[hp]at h1;cases h1
theorem S.cI(s:S z g σ As M H)(hp:H p=none):z.H0 p=none:=by
 cases e:z.H0 p with
 |none=>rfl
 |some o=>
  by_cases hb:p∈z.B
  . exact absurd (s.lG _ (s.bm _ hb)) (s.fresh hp)
  .
   by_cases ht:p∈z.TA
   . obtain⟨q,hq,rfl⟩:=fA.mp ht;exact absurd (s.lG _ (s.tm q hq)) (s.fresh hp)
   . rw[s.keep p o e hb ht]at hp;cases hp
theorem S.laid(s:S z g σ As M H){p:Addr}{o:HO}(hp:H p=none):S z g σ As M (upd H p o) where
 sl:=s.sl.stay (az.laid hp) λa _ u e=>by rw[aF (aO e hp)];exact e
 nd:=s.nd
 sub:=s.sub
 own:=s.own
 live:=λm hm=>by
  rcases s.live m hm with ⟨o,e,gr⟩ |e
  . exact .inl ⟨o,by rw[aF (aO e hp)];exact e,gr⟩
  . exact .inr e
 keep:=λb u e hb ht=>by rw[aF (aO (s.keep b u e hb ht) hp)];exact s.keep b u e hb ht
 lG:=s.lG
 m0:=s.m0
 bm:=s.bm
 jF:=s.jF
 tab:=λp h=>(s.tab p h).keep λb u e _=>by rw[aF (aO e hp)];exact e
 tm:=s.tm
 tt:=s.tt
theorem S.Xe(s:S z g σ As M H){p:Addr}{u0:HO}(gu:Xc u0)(hp:H p=none):S z g σ As (p::M) (upd H p u0) where
 sl:=s.sl.stay (az.aW hp) λa _ u e=>by rw[aF (aO e hp)];exact e
 nd:=s.nd
 sub:=λa ha=>aS _ (s.sub a ha)
 own:=s.own
 live:=λm hm=>by
  rcases dS.mp hm with rfl |hm
  . exact .inl ⟨_,aI,gu⟩
  .
   rcases s.live m hm with ⟨o,e,gr⟩ |e
   . exact .inl ⟨o,by rw[aF (aO e hp)];exact e,gr⟩
   . exact .inr e
 keep:=λb u e hb ht=>by rw[aF (aO (s.keep b u e hb ht) hp)];exact s.keep b u e hb ht
 lG:=λm hm=>aS _ (s.lG m hm)
 m0:=s.m0
 bm:=s.bm
 jF:=s.jF
 tab:=λp h=>(s.tab p h).keep λb u e _=>by rw[aF (aO e hp)];exact e
 tm:=s.tm
 tt:=s.tt
theorem S.aW(s:S z g σ As M H){p:Addr}{xs:List V}(hp:H p=none):S z g σ As (p::M) (upd H p (.lst xs)):=s.Xe trivial hp
theorem S.QZ(s:S z g σ As M H){a:Addr}{u0 u1:HO}(hm:a∈M)(hA:a∉As)(h0:z.H0 a=none)(h:H a=some u0)(g0:Xc u0)(g1:Xc u1):S z g σ As M (upd H a u1) where
 sl:=s.sl.stay (az.write hm) λb hb u e=>by rw[aF (show b≠a from λq=>hA (by rw[<- q];exact hb))];exact e
 nd:=s.nd
 sub:=s.sub
 own:=s.own
 live:=λm hm=>by
  by_cases e:m=a
  . subst e;exact .inl ⟨_,aI,g1⟩
  .
   rcases s.live m hm with ⟨o,q,gr⟩ |q
   . exact .inl ⟨o,by rw[aF e];exact q,gr⟩
   . exact .inr q
 keep:=λb o e hb ht=>by rw[aF (λq=>by rw[q,h0]at e;cases e)];exact s.keep b o e hb ht
 lG:=s.lG
 m0:=s.m0
 bm:=s.bm
 jF:=s.jF
 tab:=λp hp=>(s.tab p hp).keep λb o e n=>by rw[aF (λq=>by rw[q,h]at e;cases e;exact n g0)];exact e
 tm:=s.tm
 tt:=s.tt
theorem S.drop(s:S z g σ As M H)(h0:z.H0 p=none)(hA:p∉As):S z g σ As (M.filter λm=>decide (m≠p)) H where
 sl:=s.sl.stay (az.less λm hm=>(i7.mp hm).1) λ_ _ _ e=>e
 nd:=s.nd
 sub:=λa ha=>i7.mpr ⟨s.sub a ha,by have:a≠p:=λe=>hA (e▸ha);simpa using this⟩
 own:=s.own
 live:=λm hm=>s.live m (i7.mp hm).1
 keep:=s.keep
 lG:=λm hm=>i7.mpr ⟨s.lG m hm,by have:m≠p:=λe=>s.m0 m hm (e▸h0);simpa using this⟩
 m0:=s.m0
 bm:=s.bm
 jF:=s.jF
 tab:=s.tab
 tm:=s.tm
 tt:=s.tt
end
def fT(z:Z)(g:G)(σ:Sg)(As M:List Addr)(H:Hp):R->V->Prop
 |.dat d,v=>Rep z.K M H d v
 |.new l,v=>∃a xs,v=.ref a/\a∈M/\a∉As/\z.H0 a=none/\H a=some (.lst xs)/\aH z.K M H l xs
 |.var i,v=>∃l,g[i]?=some (.own l)/\σ[i]?=some (some v)
inductive Pk(K:Frag)(M:List Addr)(H:Hp):D->V->Prop
 |of:Rep K M H d v->Pk K M H d v
 |lst {l:List D}{a:Addr}{xs:List V}:H a=some (.lst xs)->aH K M H l xs->Pk K M H (.lst l) (.ref a)
theorem Pk.list{K:Frag}{M:List Addr}{H:Hp}{l:List D}{v:V}(h:Pk K M H (.lst l) v):∃a xs,v=.ref a/\H a=some (.lst xs)/\aH K M H l xs:=by
 cases h with
 |of r=>cases r with |lst h1 h2=>exact⟨_,_,rfl,h1.2,h2⟩
 |lst h1 h2=>exact⟨_,_,rfl,h1,h2⟩
theorem Slots.at{K:Frag}{M:List Addr}{H:Hp}{g:G}{σ:Sg}{As:List Addr}{i:Nat}{l:List D}(q:Slots K M H g σ As)(e:g[i]?=some (.own l)):∃a xs,σ[i]?=some (some (.ref a))/\a∈As/\H a=some (.lst xs)/\aH K M H l xs:=by
 induction q generalizing i with
 |nil=>exact nomatch (show none=some (Slot.own l)from e)
 |no q ih=>cases i with
  |zero=>exact nomatch (show some Slot.no=some (Slot.own l)from e)
  |succ i=>exact ih e
 |dat r q ih=>cases i with
  |zero=>exact nomatch (show some (Slot.dat _)=some (Slot.own l)from e)
  |succ i=>exact ih e
 |own h r q ih=>cases i with
  |zero=>cases (show some (Slot.own _)=some (Slot.own l)from e);exact⟨_,_,rfl,bP,h,r⟩
  |succ i=>obtain⟨a,xs,h1,h2,h3⟩:=ih e;exact⟨a,xs,h1,aS _ h2,h3⟩
theorem Slots.oR{K:Frag}{M:List Addr}{H:Hp}{g:G}{σ:Sg}{As:List Addr}{i:Nat}{d:D}(q:Slots K M H g σ As)(e:g[i]?=some (.dat d)):∃v,σ[i]?=some (some v)/\Rep K M H d v:=by
 induction q generalizing i with
 |nil=>exact nomatch (show none=some (Slot.dat d)from e)
 |no q ih=>cases i with
  |zero=>exact nomatch (show some Slot.no=some (Slot.dat d)from e)
  |succ i=>exact ih e
 |dat r q ih=>cases i with
  |zero=>cases (show some (Slot.dat _)=some (Slot.dat d)from e);exact⟨_,rfl,r⟩
  |succ i=>exact ih e
 |own h r q ih=>cases i with
  |zero=>exact nomatch (show some (Slot.own _)=some (Slot.dat d)from e)
  |succ i=>exact ih e
theorem Slots.length{K:Frag}{M:List Addr}{H:Hp}{g:G}{σ:Sg}{As:List Addr}(q:Slots K M H g σ As):g.length=σ.length:=by
 induction q with
 |nil=>rfl
 |no q ih=>exact congrArg (· + 1) ih
 |dat r q ih=>exact congrArg (· + 1) ih
 |own h r q ih=>exact congrArg (· + 1) ih
theorem Slots.lH{K:Frag}{M:List Addr}{H:Hp}{d:D}{v:V}(r:Rep K M H d v){g:G}{σ:Sg}{As:List Addr}(i:Nat)(q:Slots K M H g σ As):∃aG,Slots K M H (g.set i (.dat d)) (σ.set i (some v)) aG/\aG.Sublist As:=by
 induction q generalizing i with
 |nil=>exact⟨[],.nil,.slnil⟩
 |no q ih=>cases i with
  |zero=>exact⟨_,.dat r q,List.Sublist.refl _⟩
  |succ i=>obtain⟨aG,h1,h2⟩:=ih i;exact⟨aG,.no h1,h2⟩
 |dat r' q ih=>cases i with
  |zero=>exact⟨_,.dat r q,List.Sublist.refl _⟩
  |succ i=>obtain⟨aG,h1,h2⟩:=ih i;exact⟨aG,.dat r' h1,h2⟩
 |own e r' q ih=>cases i with
  |zero=>exact⟨_,.dat r q,List.sublist_cons_self _ _⟩
  |succ i=>obtain⟨aG,h1,h2⟩:=ih i;exact⟨_::aG,.own e r' h1,h2.cons₂ _⟩
theorem Slots.freeze{K:Frag}{M M':List Addr}{H:Hp}(hM:∀m∈M',m∈M){g:G}{σ:Sg}{As:List Addr}{i:Nat}{l:List D}{a:Addr}(q:Slots K M H g σ As)(e:g[i]?=some (.own l))(e2:σ[i]?=some (some (.ref a)))(na:a∉M')(nd:As.Nodup) :
  ∃aG,Slots K M' H (g.set i (.dat (.lst l))) σ aG/\aG.Sublist As/\a∉aG:=by
 induction q generalizing i with
 |nil=>exact nomatch (show none=some (Slot.own l)from e)
 |no q ih=>cases i with
  |zero=>exact nomatch (show some Slot.no=some (Slot.own l)from e)
  |succ i=>obtain⟨aG,h1,h2,h3⟩:=ih e e2 nd;exact⟨aG,.no h1,h2,h3⟩
 |dat r q ih=>cases i with
  |zero=>exact nomatch (show some (Slot.dat _)=some (Slot.own l)from e)
  |succ i=>obtain⟨aG,h1,h2,h3⟩:=ih e e2 nd;exact⟨aG,.dat (r.stay (az.less hM)) h1,h2,h3⟩
 |@own g σ As b xs ds h r q ih=>cases i with
  |zero=>
   cases (show some (Slot.own _)=some (Slot.own l)from e)
   cases (show some (some (V.ref b))=some (some (V.ref a))from e2)
   exact⟨_,.dat (.lst ⟨na,h⟩ (r.stay (az.less hM))) (q.stay (az.less hM) λ_ _ _ e=>e),List.sublist_cons_self _ _,(fN.mp nd).1⟩
  |succ i=>
   obtain⟨aG,h1,h2,h3⟩:=ih e e2 (fN.mp nd).2;refine⟨b::aG,.own h (r.stay (az.less hM)) h1,h2.cons₂ _,λhm=>?_⟩
   rcases dS.mp hm with z |z
   .
    obtain⟨c,xs,z1,z2,_⟩:=q.at (i:=i) e;cases (show some (some (V.ref c))=some (some (V.ref a))from z1.symm.trans e2)
    exact (fN.mp nd).1 (by rw[<- z];exact z2)
   . exact h3 z
theorem Slots.change{K:Frag}{M:List Addr}{H H':Hp}{l':List D}{a:Addr}{xs':List V}(st:az M H M H')(ha:H' a=some (.lst xs'))(r':aH K M H' l' xs'){g:G}{σ:Sg}{As:List Addr}{i:Nat}{l:List D}(q:Slots K M H g σ As)(e:g[i]?=some (.own l))(e2:σ[i]?=some (some (.ref a)))(nd:As.Nodup)
  (k:∀b∈As,b≠a->∀o,H b=some o->H' b=some o):Slots K M H' (g.set i (.own l')) σ As:=by
 induction q generalizing i with
 |nil=>exact nomatch (show none=some (Slot.own l)from e)
 |no q ih=>cases i with
  |zero=>exact nomatch (show some Slot.no=some (Slot.own l)from e)
  |succ i=>exact .no (ih e e2 nd k)
 |dat r q ih=>cases i with
  |zero=>exact nomatch (show some (Slot.dat _)=some (Slot.own l)from e)
  |succ i=>exact .dat (r.stay st) (ih e e2 nd k)
 |@own g σ As b xs ds h r q ih=>cases i with
  |zero=>
   cases (show some (some (V.ref b))=some (some (V.ref a))from e2)
   exact .own ha r' (q.stay st λc hc o e=>k c (aS _ hc) (λz=>(fN.mp nd).1 (by rw[<- z];exact hc)) o e)
  |succ i=>
   refine .own (k b bP (λz=>?_) _ h) (r.stay st) (ih e e2 (fN.mp nd).2 λc hc=>k c (aS _ hc))
   obtain⟨c,xs,z1,z2,_⟩:=q.at (i:=i) e;cases (show some (some (V.ref c))=some (some (V.ref a))from z1.symm.trans e2)
   exact (fN.mp nd).1 (by rw[z];exact z2)
section
variable{g:G}
theorem gA(h:(g.set i (.dat d))[j]?=some (.own l)):g[j]?=some (.own l)/\j≠i:=by
 by_cases e:i=j
 .
  subst e;by_cases hi:i<g.length
  . rw[fR hi]at h;cases h
  . rw[nK.mpr (by rw[t6];lia)]at h;cases h
 . rw[eR e]at h;exact⟨h,tP e⟩
theorem S.freeze(s:S z g σ As M H){i:Nat}{l:List D}(hg:g[i]?=some (.own l))(hb:i∉z.bor):∃aG M',S z (g.set i (.dat (.lst l))) σ aG M' H/\az M H M' H:=by
 obtain⟨a,xs,e1,e2,e3,e4⟩:=s.sl.at hg;have h0:z.H0 a=none:=(s.own i a l hg e1).elim (λq=>absurd q.1 hb) id
 have hM:∀m∈(M.filter λm=>decide (m≠a)),m∈M:=λm hm=>(i7.mp hm).1
 have na:a∉(M.filter λm=>decide (m≠a)):=λhm=>by
  have:=(i7.mp hm).2;simp at this
 obtain⟨aG,q1,q2,q3⟩:=s.sl.freeze hM hg e1 na s.nd;refine⟨aG,_,⟨q1,s.nd.sublist q2,λb hb=>i7.mpr ⟨s.sub b (q2.subset hb),?_⟩,λj b l' h1 h2=>s.own j b l' (gA h1).1 h2,λm hm=>s.live m (hM m hm),s.keep,λm hm=>i7.mpr ⟨s.lG m hm,?_⟩,s.m0,s.bm,λp hp=>⟨(s.jF p hp).1,?_⟩,s.tab,s.tm,s.tt⟩,az.less hM⟩
 rotate_left 2
 .
  have:i≠p.1:=λe=>hb (by rw[e];exact tJ (f:=(·.1)) hp)
  rw[eR this];exact (s.jF p hp).2
 .
  have:b≠a:=λe=>q3 (e▸hb)
  simpa using this
 .
  have:m≠a:=λe=>s.m0 m hm (e▸h0)
  simpa using this
theorem S.write(s:S z g σ As M H){i:Nat}{l l':List D}{a:Addr}{xs':List V}(hg:g[i]?=some (.own l))(e1:σ[i]?=some (some (.ref a)))(r:aH z.K M H l' xs'):S z (g.set i (.own l')) σ As M (upd H a (.lst xs'))/\az M H M (upd H a (.lst xs')):=by
 obtain⟨b,xs,e2,e3,e4,e5⟩:=s.sl.at hg;rw[e1]at e2;injection e2 with e2;injection e2 with e2;injection e2 with e2;subst e2;have st:az M H M (upd H a (.lst xs')):=az.write (s.sub a e3);refine⟨⟨s.sl.change st aI (r.stay st) hg e1 s.nd (λb _ ne o e=>by rw[aF ne];exact e),s.nd,s.sub,λj b l2 h1 h2=>?_,λm hm=>?_,λb o e hb ht=>?_,s.lG,s.m0,s.bm,λp hp=>⟨(s.jF p hp).1,?_⟩,λp h=>(s.tab p h).keep λb u e nl=>?_,s.tm,s.tt⟩,st⟩
 rotate_left 3
 .
  by_cases hj:i=p.1
  . rw[<- hj];exact⟨l',fR (b0.mp hg).1⟩
  . rw[eR hj];exact (s.jF p hp).2
 .
  have:b≠a:=λz2=>by subst z2;rw[e4]at e;cases e;exact nl trivial
  rw[aF this];exact e
 .
  by_cases hj:i=j
  . subst hj;exact s.own i b l hg h2
  . rw[eR hj]at h1;exact s.own j b l2 h1 h2
 .
  by_cases hm2:m=a
  . subst hm2;exact .inl ⟨_,aI,trivial⟩
  .
   rcases s.live m hm with ⟨o,e,gr⟩ |e
   . exact .inl ⟨o,by rw[aF hm2];exact e,gr⟩
   . exact .inr e
 .
  have q:=s.keep b o e hb ht;have:b≠a:=λz2=>by
   subst z2;rcases s.own i b l hg e1 with w |w
   . exact hb w.2
   . rw[w]at e;cases e
  rw[aF this];exact q
theorem S.lH(s:S z g σ As M H)(hb:i∉z.bor)(r:Rep z.K M H d v):∃aG,S z (g.set i (.dat d)) (σ.set i (some v)) aG M H:=by
 obtain⟨aG,h1,h2⟩:=s.sl.lH r i;refine⟨aG,h1,s.nd.sublist h2,λa ha=>s.sub a (h2.subset ha),λj b l h3 h4=>?_,s.live,s.keep,s.lG,s.m0,s.bm,λp hp=>?_,s.tab,s.tm,s.tt⟩
 rotate_left
 .
  have:i≠p.1:=λe=>hb (by rw[e];exact tJ (f:=(·.1)) hp)
  rw[eR this,eR this];exact s.jF p hp
 obtain⟨h5,h6⟩:=gA h3;rw[eR (tP h6)]at h4;exact s.own j b l h5 h4
theorem Slots.oU{K:Frag}{a:Addr}{xs:List V}{l:List D}(h:H a=some (.lst xs))(r:aH K M H l xs){g:G}{σ:Sg}{As:List Addr}(i:Nat)(q:Slots K M H g σ As)(hi:i<g.length):∃aG,Slots K M H (g.set i (.own l)) (σ.set i (some (.ref a))) aG/\(∀b∈aG,b=a\/b∈As)/\(As.Nodup->a∉As->aG.Nodup):=by
 induction q generalizing i with
 |nil=>exact absurd hi (AG _)
 |no q ih=>cases i with
  |zero=>exact⟨_,.own h r q,λb hb=>dS.mp hb,λnd na=>fN.mpr ⟨na,nd⟩⟩
  |succ i=>obtain⟨aG,h1,h2,h3⟩:=ih i (At hi);exact⟨aG,.no h1,h2,h3⟩
 |dat r' q ih=>cases i with
  |zero=>exact⟨_,.own h r q,λb hb=>dS.mp hb,λnd na=>fN.mpr ⟨na,nd⟩⟩
  |succ i=>obtain⟨aG,h1,h2,h3⟩:=ih i (At hi);exact⟨aG,.dat r' h1,h2,h3⟩
 |@own g σ As c ys ds e r' q ih=>cases i with
  |zero=>exact⟨_,.own h r q,λb hb=>(dS.mp hb).imp id (aS _),λnd na=>fN.mpr ⟨λz=>na (aS _ z),(fN.mp nd).2⟩⟩
  |succ i=>obtain⟨aG,h1,h2,h3⟩:=ih i (At hi);exact⟨c::aG,.own e r' h1,λb hb=>(dS.mp hb).elim (λz=>.inr (z▸bP)) λz=>(h2 b z).imp id (aS _),λnd na=>fN.mpr ⟨λz=>(h2 c z).elim (λw=>na (w▸bP)) (fN.mp nd).1,h3 (fN.mp nd).2 λw=>na (aS _ w)⟩⟩
theorem S.oU(s:S z g σ As M H){i:Nat}{l:List D}{a:Addr}{xs:List V}(hb:i∉z.bor)(hi:i<g.length)(hm:a∈M)(hA:a∉As)(h0:z.H0 a=none)(h:H a=some (.lst xs))(r:aH z.K M H l xs):∃aG,S z (g.set i (.own l)) (σ.set i (some (.ref a))) aG M H:=by
 obtain⟨aG,h1,h2,h3⟩:=s.sl.oU h r i hi;refine⟨aG,h1,h3 s.nd hA,λb hb=>(h2 b hb).elim (λe=>e▸hm) (s.sub b),λj b l2 h4 h5=>?_,s.live,s.keep,s.lG,s.m0,s.bm,λp hp=>?_,s.tab,s.tm,s.tt⟩
 rotate_left
 .
  have:i≠p.1:=λe=>hb (by rw[e];exact tJ (f:=(·.1)) hp)
  rw[eR this,eR this];exact s.jF p hp
 by_cases hj:i=j
 .
  subst hj;rw[fR (by rw[<- s.sl.length];exact hi)]at h5
  injection h5 with h5;injection h5 with h5;injection h5 with h5;subst h5;exact .inr h0
 . rw[eR hj]at h4 h5;exact s.own j b l2 h4 h5
end
abbrev Kn (z:Z) (g':G) (σ:Sg) (M:List Addr) (H:Hp) (r:R) (Q:VK):Prop:=
 ∀v H' aG M',S z g' σ aG M' H'->az M H M' H'->fT z g' σ aG M' H' r v->Q v H'
def aB(X:Cx)(z:Z)(e:Expr)(g:G)(r:R)(g':G):Prop:=
 ∃t,PE X e t/\∀σ As M H Q,S z g σ As M H->Kn z g' σ M H r Q->t σ H Q
def dM(X:Cx)(z:Z)(e:Expr)(g:G)(b:Bool)(g':G):Prop:=
 ∃t,PT X e t/\∀σ As M H (Q:Bool->Hp->Prop),S z g σ As M H->(∀H' aG M',S z g' σ aG M' H'->az M H M' H'->Q b H')->t σ H Q
def jY(X:Cx)(z:Z)(f:Value->Value->Sem Value)(d1 d2:D)(res:R):Prop:=
 ∃r:R2,jX X f r/\∀g σ As M H v1 v2 Q,S z g σ As M H->Pk z.K M H d1 v1->Pk z.K M H d2 v2->Kn z g σ M H res Q->r v1 v2 H Q
def Vo(X:Cx)(z:Z)(d1 d2:D)(res:R):Prop:=
 ∃r:R2,WX X r/\∀g σ As M H v1 v2 Q,S z g σ As M H->Pk z.K M H d1 v1->Pk z.K M H d2 v2->Kn z g σ M H res Q->r v1 v2 H Q
def UnD(X:Cx)(z:Z)(f:Value->Sem Value)(d:D)(res:R):Prop:=
 ∃r:V->Hp->VK->Prop,Zi X f r/\∀g σ As M H v Q,S z g σ As M H->Pk z.K M H d v->Kn z g σ M H res Q->r v H Q
noncomputable def pk:R->G->Option D
 |.dat d,_=>some d
 |.new _,_=>none
 |.var i,g=>match g[i]? with |some (.own l)=>some (.lst l) |some (.dat (.lst l))=>some (.lst l) |_=>none
section
theorem S.pk(s:S z g2 σ As M2 H2)(st:az M1 H1 M2 H2)(q:fT z g1 σ bf M1 H1 r v)(h:pk r g2=some d):Pk z.K M2 H2 d v:=by
 cases r with
 |dat d'=>have e:d'=d:=nS h;subst e;exact .of (Rep.stay st q)
 |new l=>cases h
 |var i=>
  obtain⟨l,h1,h2⟩:=q;unfold Ev.pk at h;dsimp only at h;split at h
  . rename_i l' hg;have e:=nS h;subst e;obtain⟨a,xs,e1,e2,e3,e4⟩:=s.sl.at hg;rw[h2]at e1;injection e1 with e1;injection e1 with e1;subst e1;exact .lst e3 e4
  . rename_i l' hg;have e:=nS h;subst e;obtain⟨w,e1,e2⟩:=s.sl.oR hg;rw[h2]at e1;injection e1 with e1;injection e1 with e1;exact .of (e1▸e2)
  . cases h
theorem Q5{i j}:aB X z (.Constant (.int i) j pos) g (.dat (.int i)) g:=⟨_,Qe,λσ As M H Q s k=>k _ _ _ _ s (az.refl _ _) (.int i)⟩
theorem Xf{i j}:aB X z (.Constant (.bool i) j pos) g (.dat (.bl i)) g:=⟨_,Wc,λσ As M H Q s k=>k _ _ _ _ s (az.refl _ _) (.bl i)⟩
theorem Q6{j}:aB X z (.Constant .none j pos) g (.dat .non) g:=⟨_,Qf,λσ As M H Q s k=>k _ _ _ _ s (az.refl _ _) .non⟩
theorem Q7{x j}:aB X z (.Constant (.str x) j pos) g (.dat (.str x)) g:=⟨_,Qg,λσ As M H Q s k=>k _ _ _ _ s (az.refl _ _) (.str x)⟩
theorem Q8{i:Nat}{x:Str}(hN:X.N[i]?=some x)(hv:mQ X.env.scope x)(hd:(x==("__debug__":Str))=false)(eS:(x==("__classdict__":Str))=false)(hg:g[i]?=some (.dat d)):aB X z (.Name x pos) g (.dat d) g:=
 ⟨_,dH hN hv hd eS,λσ As M H Q s k=>let ⟨v,e,r⟩:=s.sl.oR hg;⟨v,e,k v H As M s (az.refl _ _) r⟩⟩
theorem Ko(hN:X.N[i]?=some x)(hv:mQ X.env.scope x)(hd:(x==("__debug__":Str))=false)(eS:(x==("__classdict__":Str))=false)(hg:g[i]?=some (.own l)):aB X z (.Name x pos) g (.var i) g:=
 ⟨_,dH hN hv hd eS,λσ As M H Q s k=>let ⟨a,xs,e,r⟩:=s.sl.at hg;⟨_,e,k _ H As M s (az.refl _ _) ⟨l,hg,e⟩⟩⟩
theorem Kp(hg:Gl X x)(hm:X.mg x=some u)(r:RelV v u)(hr:∀M H,Rep z.K M H d v)(hd:(x==("__debug__":Str))=false):aB X z (.Name x pos) g (.dat d) g:=
 ⟨_,JG hg hm r hd,λσ As M H Q s k=>k _ H As M s (az.refl _ _) (hr M H)⟩
theorem oV(h:aB X z e g (.new l) g'):aB X z e g (.dat (.lst l)) g':=by
 obtain⟨t,p,q⟩:=h;refine⟨t,p,λσ As M H Q s k=>q σ As M H Q s λv H' aG M' s' st r=>?_⟩
 obtain⟨a,xs,rfl,hm,hA,h0,ha,rr⟩:=r;have hM:∀m∈(M'.filter λm=>decide (m≠a)),m∈M':=λm hm=>(i7.mp hm).1
 have na:a∉(M'.filter λm=>decide (m≠a)):=λhm=>by
  have:=(i7.mp hm).2;simp at this
 exact k _ H' aG _ (s'.drop h0 hA) (st.trans (az.less hM)) (.lst ⟨na,ha⟩ (rr.stay (az.less hM)))
theorem Bm(h:aB X z e g (.var i) g1)(hg:g1[i]?=some (.own l))(hb:i∉z.bor):aB X z e g (.dat (.lst l)) (g1.set i (.dat (.lst l))):=by
 obtain⟨t,p,q⟩:=h;refine⟨t,p,λσ As M H Q s k=>q σ As M H Q s λv H' aG M' s' st r=>?_⟩
 obtain⟨l',h1,h2⟩:=r;obtain⟨bK,M2,s2,aN⟩:=s'.freeze hg hb;have hi:i<g1.length:=(b0.mp hg).1;obtain⟨v',e1,e2⟩:=s2.sl.oR (i:=i) (d:=.lst l) (by rw[fR hi])
 rw[h2]at e1;injection e1 with e1;injection e1 with e1;subst e1;exact k _ H' bK M2 s2 (st.trans aN) e2
theorem Q9(h1:aB X z a g r1 g1)(h2:aB X z b g1 r2 g2)(p1:pk r1 g2=some d1)(p2:pk r2 g2=some d2)(ho:jY X z (binaryOp op) d1 d2 r):aB X z (.BinOp a op b pos) g r g2:=by
 obtain⟨t1,q1,k1⟩:=h1;obtain⟨t2,q2,k2⟩:=h2;obtain⟨rr,o,ko⟩:=ho;exact⟨_,Wt o q1 q2,λσ As M H Q s k=>k1 σ As M H _ s λv1 H1 bf M1 s1 eu R1=>k2 σ bf M1 H1 _ s1 λv2 H2 bK M2 s2 aN R2=>
  ko g2 σ bK M2 H2 v1 v2 Q s2 (s2.pk aN R1 p1) (s2.pk (az.refl _ _) R2 p2) λv H' aG M' s' st' R'=>k v H' aG M' s' (eu.trans (aN.trans st')) R'⟩
theorem Ra(h1:aB X z a g r1 g1)(h2:aB X z b g1 r2 g2)(p1:pk r1 g2=some d1)(p2:pk r2 g2=some d2)(ho:jY X z (compareOp op) d1 d2 r)(hm:behindInMarks op b=false):aB X z (.Compare a [op] [b] pos) g r g2:=by
 obtain⟨t1,q1,k1⟩:=h1;obtain⟨t2,q2,k2⟩:=h2;obtain⟨rr,o,ko⟩:=ho;exact⟨_,J0 o q1 q2 hm,λσ As M H Q s k=>k1 σ As M H _ s λv1 H1 bf M1 s1 eu R1=>k2 σ bf M1 H1 _ s1 λv2 H2 bK M2 s2 aN R2=>
  ko g2 σ bK M2 H2 v1 v2 Q s2 (s2.pk aN R1 p1) (s2.pk (az.refl _ _) R2 p2) λv H' aG M' s' st' R'=>k v H' aG M' s' (eu.trans (aN.trans st')) R'⟩
theorem Xg(h1:aB X z a g r1 g1)(h2:aB X z b g1 r2 g2)(p1:pk r1 g2=some d1)(p2:pk r2 g2=some d2)(ho:Vo X z d1 d2 r)(hs:sY b):aB X z (.Subscript a b pos) g r g2:=by
 obtain⟨t1,q1,k1⟩:=h1;obtain⟨t2,q2,k2⟩:=h2;obtain⟨rr,o,ko⟩:=ho;exact⟨_,Ou o q1 q2 hs,λσ As M H Q s k=>k1 σ As M H _ s λv1 H1 bf M1 s1 eu R1=>k2 σ bf M1 H1 _ s1 λv2 H2 bK M2 s2 aN R2=>
  ko g2 σ bK M2 H2 v1 v2 Q s2 (s2.pk aN R1 p1) (s2.pk (az.refl _ _) R2 p2) λv H' aG M' s' st' R'=>k v H' aG M' s' (eu.trans (aN.trans st')) R'⟩
theorem Xh(h1:aB X z a g r1 g1)(p1:pk r1 g1=some d1)(ho:UnD X z (unaryOp op) d1 r):aB X z (.UnaryOp op a pos) g r g1:=by obtain⟨t1,q1,k1⟩:=h1;obtain⟨rr,o,ko⟩:=ho;exact⟨_,Wu o q1,λσ As M H Q s k=>k1 σ As M H _ s λv1 H1 bf M1 s1 eu R1=>ko g1 σ bf M1 H1 v1 Q s1 (s1.pk (az.refl _ _) R1 p1) λv H' aG M' s' st' R'=>k v H' aG M' s' (eu.trans st') R'⟩
theorem gB(q:fT z g σ As M H (.dat (.bl c)) v):v=.bl c:=by have q':Rep z.K M H (.bl c) v:=q;cases q';rfl
theorem Rb(h1:aB X z a g r1 g1)(h2:aB X z b g1 r2 g2)(p1:pk r1 g2=some d1)(p2:pk r2 g2=some d2)(ho:jY X z (compareOp op) d1 d2 (.dat (.bl c)))(hm:behindInMarks op b=false):dM X z (.Compare a [op] [b] pos) g c g2:=by
 obtain⟨t1,q1,k1⟩:=h1;obtain⟨t2,q2,k2⟩:=h2;obtain⟨rr,o,ko⟩:=ho;exact⟨_,J1 o q1 q2 hm,λσ As M H Q s k=>k1 σ As M H _ s λv1 H1 bf M1 s1 eu R1=>k2 σ bf M1 H1 _ s1 λv2 H2 bK M2 s2 aN R2=>
  ko g2 σ bK M2 H2 v1 v2 _ s2 (s2.pk aN R1 p1) (s2.pk (az.refl _ _) R2 p2) λv H' aG M' s' st' R'=>⟨c,gB R',k H' aG M' s' (eu.trans (aN.trans st'))⟩⟩
theorem Rc(h:dM X z a g c g'):dM X z (.UnaryOp .Not a pos) g (!c) g':=by obtain⟨t,q,k⟩:=h;exact⟨_,Qh q,λσ As M H Q s kk=>k σ As M H _ s λH' aG M' s' st=>kk H' aG M' s' st⟩
def nL(X:Cx)(z:Z)(e:Expr)(g:G)(b:Bool)(g':G):Prop:=
 ∃t,PW X e t/\∀σ As M H (Q:Bool->Hp->Prop),S z g σ As M H->(∀H' aG M',S z g' σ aG M' H'->az M H M' H'->Q b H')->t σ H Q
theorem nL.tr(h:nL X z e g c g'):dM X z e g c g':=let ⟨t,q,k⟩:=h;⟨t,q.pt,k⟩
theorem Kq(h:dM X z a g c g'):nL X z (.BoolOp .And [a] pos) g c g':=let ⟨t,q,k⟩:=h;⟨t,pw_and1 q,k⟩
theorem Rf(h:dM X z a g c g'):nL X z (.BoolOp .Or [a] pos) g c g':=let ⟨t,q,k⟩:=h;⟨t,pw_or1 q,k⟩
def tNo:TT:=λ_ _ _=>False
theorem pw_never:PW X e tNo:=λ_ _ _ _ _ _ _ h=>h.elim
theorem j9:PE X e (λ_ _ _=>False):=λ_ _ _ _ _ _ h=>h.elim
theorem Kr{rest:List Expr}(h:dM X z a g false g1):nL X z (.BoolOp .And (a::b::rest) pos) g false g1:=by obtain⟨t,q,k⟩:=h;exact⟨_,pw_and q pw_never,λσ As M H Q s kk=>k σ As M H _ s λH' aG M' s' st=>qK (kk H' aG M' s' st)⟩
theorem Ks{rest:List Expr}{c:Bool}(h:dM X z a g true g1)(h2:nL X z (.BoolOp .And (b::rest) pos) g1 c g2):nL X z (.BoolOp .And (a::b::rest) pos) g c g2:=by obtain⟨t,q,k⟩:=h;obtain⟨t2,q2,k2⟩:=h2;exact⟨_,pw_and q q2,λσ As M H Q s kk=>k σ As M H _ s λH' aG M' s' st=>lE (k2 σ aG M' H' Q s' λH2 bK M2 s2 aN=>kk H2 bK M2 s2 (st.trans aN))⟩
theorem Rg{rest:List Expr}(h:dM X z a g true g1):nL X z (.BoolOp .Or (a::b::rest) pos) g true g1:=by obtain⟨t,q,k⟩:=h;exact⟨_,pw_or q pw_never,λσ As M H Q s kk=>k σ As M H _ s λH' aG M' s' st=>lE (kk H' aG M' s' st)⟩
theorem Rh{rest:List Expr}{c:Bool}(h:dM X z a g false g1)(h2:nL X z (.BoolOp .Or (b::rest) pos) g1 c g2):nL X z (.BoolOp .Or (a::b::rest) pos) g c g2:=by obtain⟨t,q,k⟩:=h;obtain⟨t2,q2,k2⟩:=h2;exact⟨_,pw_or q q2,λσ As M H Q s kk=>k σ As M H _ s λH' aG M' s' st=>qK (k2 σ aG M' H' Q s' λH2 bK M2 s2 aN=>kk H2 bK M2 s2 (st.trans aN))⟩
theorem Ff(h:aB X z a g r g'):aB X z (.BoolOp op [a] pos) g r g':=let ⟨t,q,k⟩:=h;⟨t,Qi q,k⟩
theorem Ku{rest:List Expr}(h:aB X z a g (.dat (.bl false)) g1):aB X z (.BoolOp .And (a::b::rest) pos) g (.dat (.bl false)) g1:=by obtain⟨t,q,k⟩:=h;exact⟨_,Ef q j9,λσ As M H Q s kk=>k σ As M H _ s λv H' aG M' s' st R=>⟨false,gB R,qK (kk _ H' aG M' s' st (.bl false))⟩⟩
theorem Kv{rest:List Expr}(h:aB X z a g (.dat (.bl true)) g1)(h2:aB X z (.BoolOp .And (b::rest) pos) g1 r g2):aB X z (.BoolOp .And (a::b::rest) pos) g r g2:=by obtain⟨t,q,k⟩:=h;obtain⟨t2,q2,k2⟩:=h2;exact⟨_,Ef q q2,λσ As M H Q s kk=>k σ As M H _ s λv H' aG M' s' st R=>⟨true,gB R,lE (k2 σ aG M' H' Q s' λv2 H2 bK M2 s2 aN=>kk v2 H2 bK M2 s2 (st.trans aN))⟩⟩
theorem Ri{rest:List Expr}(h:aB X z a g (.dat (.bl true)) g1):aB X z (.BoolOp .Or (a::b::rest) pos) g (.dat (.bl true)) g1:=by obtain⟨t,q,k⟩:=h;exact⟨_,Om q j9,λσ As M H Q s kk=>k σ As M H _ s λv H' aG M' s' st R=>⟨true,gB R,lE (kk _ H' aG M' s' st (.bl true))⟩⟩
theorem Rj{rest:List Expr}(h:aB X z a g (.dat (.bl false)) g1)(h2:aB X z (.BoolOp .Or (b::rest) pos) g1 r g2):aB X z (.BoolOp .Or (a::b::rest) pos) g r g2:=by obtain⟨t,q,k⟩:=h;obtain⟨t2,q2,k2⟩:=h2;exact⟨_,Om q q2,λσ As M H Q s kk=>k σ As M H _ s λv H' aG M' s' st R=>⟨false,gB R,qK (k2 σ aG M' H' Q s' λv2 H2 bK M2 s2 aN=>kk v2 H2 bK M2 s2 (st.trans aN))⟩⟩
theorem Rk(h:aB X z a g (.dat (.bl c)) g1):aB X z (.UnaryOp .Not a pos) g (.dat (.bl (!c))) g1:=by obtain⟨t,q,k⟩:=h;exact⟨_,Qj q,λσ As M H Q s kk=>k σ As M H _ s λv H' aG M' s' st R=>⟨c,gB R,kk _ H' aG M' s' st (.bl _)⟩⟩
theorem Rl(h:dM X z c g true g1)(h2:aB X z a g1 r g2):aB X z (.IfExp c a b pos) g r g2:=by obtain⟨t,q,k⟩:=h;obtain⟨t2,q2,k2⟩:=h2;exact⟨_,uU q q2 j9,λσ As M H Q s kk=>k σ As M H _ s λH' aG M' s' st=>lE (k2 σ aG M' H' Q s' λv2 H2 bK M2 s2 aN=>kk v2 H2 bK M2 s2 (st.trans aN))⟩
theorem Rm(h:dM X z c g false g1)(h2:aB X z b g1 r g2):aB X z (.IfExp c a b pos) g r g2:=by obtain⟨t,q,k⟩:=h;obtain⟨t2,q2,k2⟩:=h2;exact⟨_,uU q j9 q2,λσ As M H Q s kk=>k σ As M H _ s λH' aG M' s' st=>qK (k2 σ aG M' H' Q s' λv2 H2 bK M2 s2 aN=>kk v2 H2 bK M2 s2 (st.trans aN))⟩
inductive jG(z:Z)(σ:Sg)(M:List Addr)(H:Hp):List R->List V->Prop
 |nil:jG z σ M H [] []
 |dat {d:D}{v:V}{rs:List R}{vs:List V}:Rep z.K M H d v->jG z σ M H rs vs->jG z σ M H (.dat d::rs) (v::vs)
 |var {i:Nat}{v:V}{rs:List R}{vs:List V}:σ[i]?=some (some v)->jG z σ M H rs vs->jG z σ M H (.var i::rs) (v::vs)
def dF(X:Cx)(z:Z)(es:List Expr)(g:G)(rs:List R)(g':G):Prop:=
 ∃t,PA X es t/\∀σ As M H (Q:List V->Hp->Prop),S z g σ As M H->(∀vs H' aG M',S z g' σ aG M' H'->az M H M' H'->jG z σ M' H' rs vs->Q vs H')->t σ H Q
theorem dR:dF X z [] g [] g:=⟨_,oE,λσ As M H Q s k=>k [] H As M s (az.refl _ _) .nil⟩
theorem cJ(h:aB X z e g (.dat d) g1)(h2:dF X z es g1 rs g2)(hs:starEach (e::es) X.env=(false,eval e X.env)::starEach es X.env):dF X z (e::es) g (.dat d::rs) g2:=by obtain⟨t,q,k⟩:=h;obtain⟨t2,q2,k2⟩:=h2;exact⟨_,iX q q2 hs,λσ As M H Q s kk=>k σ As M H _ s λv H' aG M' s' st R=>k2 σ aG M' H' _ s' λvs H2 bK M2 s2 aN R2=>kk _ H2 bK M2 s2 (st.trans aN) (.dat (Rep.stay aN R) R2)⟩
theorem Fg(h:aB X z e g (.var i) g1)(h2:dF X z es g1 rs g2)(hs:starEach (e::es) X.env=(false,eval e X.env)::starEach es X.env):dF X z (e::es) g (.var i::rs) g2:=by obtain⟨t,q,k⟩:=h;obtain⟨t2,q2,k2⟩:=h2;exact⟨_,iX q q2 hs,λσ As M H Q s kk=>k σ As M H _ s λv H' aG M' s' st ⟨_,_,R⟩=>k2 σ aG M' H' _ s' λvs H2 bK M2 s2 aN R2=>kk _ H2 bK M2 s2 (st.trans aN) (.var R R2)⟩
inductive Kw(K:Frag)(M:List Addr)(H:Hp):List D->List V->Prop
 |nil:Kw K M H [] []
 |cons {d:D}{v:V}{ds:List D}{vs:List V}:Pk K M H d v->Kw K M H ds vs->Kw K M H (d::ds) (v::vs)
def qM:List R->G->Option (List D)
 | [],_=>some []
 |r::rs,g=>match pk r g,qM rs g with
  |some d,some ds=>some (d::ds)
  |_,_=>none
theorem S.qM(s:S z g σ As M H)(q:jG z σ M H rs vs)(e:qM rs g=some ds):Kw z.K M H ds vs:=by
 induction q generalizing ds with
 |nil=>cases e;exact .nil
 |@dat d v rs vs r q ih=>
  unfold Ev.qM at e;cases e2:Ev.qM rs g with
  |none=>rw[e2]at e;cases e
  |some ds=>rw[e2]at e;cases e;exact .cons (.of r) (ih e2)
 |@var i v rs vs r q ih=>
  unfold Ev.qM at e;cases e1:Ev.pk (.var i) g with
  |none=>rw[e1]at e;cases e
  |some d=>
   cases e2:Ev.qM rs g with
   |none=>rw[e1,e2]at e;cases e
   |some ds=>
    rw[e1,e2]at e;cases e;unfold Ev.pk at e1;dsimp only at e1;split at e1
    . rename_i l hg;cases e1;obtain⟨a,xs,h1,h2,h3,h4⟩:=s.sl.at hg;rw[r]at h1;injection h1 with h1;injection h1 with h1;subst h1;exact .cons (.lst h3 h4) (ih e2)
    . rename_i l hg;cases e1;obtain⟨w,h1,h2⟩:=s.sl.oR hg;rw[r]at h1;injection h1 with h1;injection h1 with h1;exact .cons (.of (h1▸h2)) (ih e2)
    . cases e1
noncomputable def tK:List R->Option (List D)
 | []=>some []
 |.dat d::rs=>match tK rs with |some ds=>some (d::ds) |none=>none
 |_::_=>none
theorem tL(q:jG z σ M H rs vs)(e:tK rs=some ds):aH z.K M H ds vs:=by
 induction q generalizing ds with
 |nil=>cases e;exact .nil
 |@dat d v rs vs r q ih=>
  unfold tK at e;cases e2:tK rs with
  |none=>rw[e2]at e;cases e
  |some ds=>rw[e2]at e;cases e;exact .cons r (ih e2)
 |var _ _ _=>cases e
theorem oW(h:n<=16777216):n<=sizeLine:=by rw[mI];exact h
theorem Ro{x1}(h:dF X z es g rs g')(hd:tK rs=some ds)(hl:ds.length<=16777216):aB X z (.Tuple es x1 pos) g (.dat (.tup ds)) g':=by
 obtain⟨t,q,k⟩:=h;refine⟨_,Ep q,λσ As M H Q s kk=>k σ As M H _ s λvs H' aG M' s' st R=>?_⟩
 have rr:=tL R hd;refine⟨by rw[<- rr.length];exact oW hl,λp hp=>kk _ _ aG M' (s'.laid hp) (st.trans (az.laid hp)) (.tup (.inl ⟨s'.fresh hp,.inl aI⟩) (rr.stay (az.laid hp)))⟩
theorem Rp(h:dF X z es g rs g')(hd:tK rs=some ds)(hl:ds.length<=16777216):aB X z (.List es pos) g (.new ds) g':=by
 obtain⟨t,q,k⟩:=h;refine⟨_,Er q,λσ As M H Q s kk=>k σ As M H _ s λvs H' aG M' s' st R=>?_⟩
 have rr:=tL R hd;refine⟨by rw[<- rr.length];exact oW hl,λp hp=>kk _ _ aG (p::M') (s'.aW hp) (st.trans (az.aW hp)) ⟨p,vs,rfl,bP,λhA=>s'.fresh hp (s'.sub p hA),s'.cI hp,aI,rr.stay (az.aW hp)⟩⟩
def CallD(X:Cx)(z:Z)(f:Value)(ds:List D)(res:R):Prop:=
 ∃r,dO X f r/\∀g σ As M H vs Q,S z g σ As M H->Kw z.K M H ds vs->Kn z g σ M H res Q->r vs H Q
theorem fH{x:Str}{id:String}{p:Pos}{es:List Expr}{rs:List R}{ds:List D}(h:dF X z (e::es) g rs g')(hp:qM rs g'=some ds)(hc:CallD X z (.builtin id) ds r)(hg:Gl X x)(hm:X.mg x=none)(hv:bootBuiltins x=some (.builtin id))(hn:x≠ "__name__")(Al:(x==("__debug__":Str))=false)
  (he:starEach (e::es) X.env=(false,eval e X.env)::starEach es X.env) (jw:(backTo pos (starEach es X.env)).any (·.1)=false):aB X z (.Call (.Name x p) (e::es) [] pos) g r g':=by
 obtain⟨t,q,k⟩:=h;obtain⟨rr,c,kc⟩:=hc;exact⟨_,u5 c hg hm hv q hn Al he jw,λσ As M H Q s kk=>k σ As M H _ s λvs H' aG M' s' st R=>kc g' σ aG M' H' vs Q s' (s'.qM R hp) λv H2 bK M2 s2 aN R2=>kk v H2 bK M2 s2 (st.trans aN) R2⟩
theorem lI(h:dF X z (e::es) g rs g')(hp:qM rs g'=some ds)(hc:CallD X z (.type T) ds r)(hg:Gl X x)(hm:X.mg x=none)(hv:bootBuiltins x=some (.type T))(hn:x≠ "__name__")(Al:(x==("__debug__":Str))=false)
  (he:starEach (e::es) X.env=(false,eval e X.env)::starEach es X.env) (jw:(backTo pos (starEach es X.env)).any (·.1)=false):aB X z (.Call (.Name x p) (e::es) [] pos) g r g':=by
 obtain⟨t,q,k⟩:=h;obtain⟨rr,c,kc⟩:=hc;exact⟨_,Bc c hg hm hv q hn Al he jw,λσ As M H Q s kk=>k σ As M H _ s λvs H' aG M' s' st R=>kc g' σ aG M' H' vs Q s' (s'.qM R hp) λv H2 bK M2 s2 aN R2=>kk v H2 bK M2 s2 (st.trans aN) R2⟩
end
mutual
noncomputable def cD:D->D->Bool
 |.non,.non=>true
 |.bl a,.bl b=>a==b
 |.bl a,.int j=>(if a then 1 else 0)==j
 |.int i,.bl b=>i==(if b then 1 else 0)
 |.int i,.int j=>i==j
 |.str x,.str y=>x==y
 |.tup l,.tup m=>cR l m
 |.lst l,.lst m=>cR l m
 |.lst l,.fix m=>cR l m
 |.fix l,.lst m=>cR l m
 |.fix l,.fix m=>cR l m
 |_,_=>false
noncomputable def cR:List D->List D->Bool
 | [],[]=>true
 |a::l,b::m=>cD a b&&cR l m
 |_,_=>false
end
mutual
noncomputable def dep:D->Nat
 |.tup l=>deps l+1
 |.lst l=>deps l+1
 |.fix l=>deps l+1
 |_=>0
noncomputable def deps:List D->Nat
 | []=>0
 |d::l=>max (dep d) (deps l)
end
mutual
noncomputable def gF:D->Bool
 |.tup l=>fc l
 |.lst l=>fc l
 |.fix l=>fc l
 |.emp=>false
 |.DN _=>false
 |.vg ..=>false
 |_=>true
noncomputable def fc:List D->Bool
 | []=>true
 |d::l=>gF d&&fc l
end
mutual
inductive Dv(h:Heap):D->Value->Prop
 |non:Dv h .non .none
 |bl (b:Bool):Dv h (.bl b) (.bool b)
 |int (i:Int) (t:Tok):Dv h (.int i) (.int i t)
 |str (x:Str) (t:Tok):Dv h (.str x) (.str x t)
 |tup {l:List D}{a:Addr}{us:List Value}:IsTup h a us.toArray->jZ h l us->Dv h (.tup l) (.ref a)
 |lst {l:List D}{a:Addr}{us:List Value}:h.IsList a us.toArray->jZ h l us->Dv h (.lst l) (.ref a)
 |fix {l:List D}{a:Addr}{us:List Value}:h.IsList a us.toArray->jZ h l us->Dv h (.fix l) (.ref a)
inductive jZ(h:Heap):List D->List Value->Prop
 |nil:jZ h [] []
 |cons {d:D}{ds:List D}{u:Value}{us:List Value}:Dv h d u->jZ h ds us->jZ h (d::ds) (u::us)
end
section
theorem Rep.dv2(I:Inv X ah σ H s)(q:Rep X.K M H d v):∀u,RelV v u->gF d=true->Dv s.heap d u:=by
 refine Rep.rec (motive_1:=λd v _=>∀u,RelV v u->gF d=true->Dv s.heap d u) (motive_2:=λds vs _=>∀us,Vals vs us->fc ds=true->jZ s.heap ds us) ?_ ?_ ?_ ?_ ?_ ?_ ?_ ?_ ?_ ?_ ?_ ?_ q
 . intro u r _;cases r;exact .non
 . intro b u r _;cases r;exact .bl b
 . intro i u r _;obtain⟨t,rfl⟩:=r;exact .int i t
 . intro x u r _;obtain⟨t,rfl⟩:=r;exact .str x t
 . intro l a xs h _ ih u r p;cases r;obtain⟨aA,rv,ht,hz⟩:=I.tuple h.sq;exact .tup ht (ih _ rv p)
 . intro l a xs h _ ih u r p;cases r;obtain⟨aA,rv,ht,hz⟩:=I.list (bY.of h.2);exact .lst ht.isList (ih _ rv p)
 . intro l a xs h _ ih u r p;cases r;obtain⟨aA,rv,ht,hz⟩:=I.list h.sq;exact .fix ht.isList (ih _ rv p)
 . intro a _ _ u _ p;exact Bool.noConfusion (show false=true from p)
 . intro C a _ _ _ u _ p;exact Bool.noConfusion (show false=true from p)
 . intro ks ds a vs _ _ _ _ _ u _ p;exact Bool.noConfusion (show false=true from p)
 . intro us r _;cases r;exact .nil
 .
  intro d ds x xs _ _ i1 i2 us r p;cases r with
  |cons r1 r2=>have p:(gF d&&fc ds)=true:=p;rw[c8]at p;exact .cons (i1 _ r1 p.1) (i2 _ r2 p.2)
theorem Rep.dv(I:Inv X ah σ H s)(q:Rep X.K M H d v)(r:RelV v u)(p:gF d=true):Dv s.heap d u:=q.dv2 I u r p
theorem aH.dv(I:Inv X ah σ H s)(q:aH X.K M H ds vs)(r:Vals vs us)(p:fc ds=true):jZ s.heap ds us:=by
 induction ds generalizing vs us with
 |nil=>cases q;cases r;exact .nil
 |cons d ds ih=>cases q with |cons q1 q2=>cases r with |cons r1 r2=>have p:(gF d&&fc ds)=true:=p;rw[c8]at p;exact .cons (q1.dv I r1 p.1) (ih q2 r2 p.2)
theorem Pk.dv(I:Inv X ah σ H s)(h:Pk X.K M H d v)(r:RelV v u)(p:gF d=true):Dv s.heap d u:=by
 cases h with
 |of q=>exact q.dv I r p
 |lst h q=>cases r;obtain⟨aA,rv,ht,hz⟩:=I.list (bY.of h);exact .lst ht.isList (aH.dv I q rv (by simpa [gF]using p))
end
theorem jZ.length(q:jZ h l us):l.length=us.length:=by
 induction l generalizing us with
 |nil=>cases q;rfl
 |cons d l ih=>cases q with |cons a b=>exact congrArg (· + 1) (ih b)
theorem rF{h:Heap}{a:Addr}{us ws:List Value}(x:IsTup h a us.toArray)(y:IsTup h a ws.toArray):us=ws:=by obtain⟨o,e,_,n,d⟩:=x;obtain⟨o',e',_,n',d'⟩:=y;rw[e]at e';cases e';rw[d]at d';injection d' with d1 _;simpa using congrArg Array.toList d1
theorem cK{h:Heap}{a:Addr}{us ws:List Value}(x:h.IsList a us.toArray)(y:h.IsList a ws.toArray):us=ws:=by obtain⟨o,e,_,n,d⟩:=x;obtain⟨o',e',_,n',d'⟩:=y;rw[e]at e';cases e';rw[d]at d';injection d' with d1 _;simpa using congrArg Array.toList d1
theorem eF(x:IsTup h a us)(y:h.IsList a ws):False:=by obtain⟨o,e,c,_⟩:=x;obtain⟨o',e',c',_⟩:=y;rw[e]at e';cases e';rw[c]at c';injection c' with c';exact absurd c' ⋯
theorem Fj{h:Heap}{d1:D}{u:Value}(q:Dv h d1 u):∀d2,Dv h d2 u->cD d1 d2=true:=by
 refine Dv.rec (motive_1:=λd1 u _=>∀d2,Dv h d2 u->cD d1 d2=true) (motive_2:=λl us _=>∀m,jZ h m us->cR l m=true) ?_ ?_ ?_ ?_ ?_ ?_ ?_ ?_ ?_ q
 . intro d2 q;cases q;rfl
 . intro b d2 q;cases q;exact AQ b
 . intro i t d2 q;cases q;exact AQ i
 . intro x t d2 q;cases q;exact AQ x
 .
  intro l a us x _ ih d2 q;cases q with
  |tup y q'=>cases rF x y;exact ih _ q'
  |lst y _=>exact (eF x y).elim
  |fix y _=>exact (eF x y).elim
 .
  intro l a us x _ ih d2 q;cases q with
  |tup y _=>exact (eF y x).elim
  |lst y q'=>cases cK x y;exact ih _ q'
  |fix y q'=>cases cK x y;exact ih _ q'
 .
  intro l a us x _ ih d2 q;cases q with
  |tup y _=>exact (eF y x).elim
  |lst y q'=>cases cK x y;exact ih _ q'
  |fix y q'=>cases cK x y;exact ih _ q'
 . intro m q;cases q;rfl
 .
  intro d ds u us _ _ i1 i2 m q;cases q with
  |@cons d' m _ _ b q'=>show (cD d d'&&cR ds m)=true;rw[i1 _ b,i2 _ q'];rfl
theorem Ky(q:Dv h d1 u)(q':Dv h d2 u):cD d1 d2=true:=Fj q d2 q'
def Oz(l m:List D)(j:Nat):Bool:=match l[j]?,m[j]? with |some a,some b=>cD a b |_,_=>false
theorem oY(l m:List D)(h:l.length=m.length):(List.range l.length).all (Oz l m)=cR l m:=by
 induction l generalizing m with
 |nil=>cases m with
  |nil=>rfl
  |cons _ _=>cases h
 |cons a l ih=>cases m with
  |nil=>cases h
  |cons b m=>rw[eI,List.range_succ_eq_map,List.all_cons,BN];have e:(Oz (a::l) (b::m) ∘ Nat.succ)=Oz l m:=rfl;rw[e,ih m (BO h)];rfl
theorem oZ(l m:List D)(h:l.length≠m.length):cR l m=false:=by
 induction l generalizing m with
 |nil=>cases m with
  |nil=>exact absurd rfl h
  |cons _ _=>rfl
 |cons a l ih=>cases m with
  |nil=>rfl
  |cons b m=>show (cD a b&&cR l m)=false;rw[ih m (λe=>h (congrArg (· + 1) e)),CB]
theorem vh(l m:List D):((List.range (min l.length m.length)).all (Oz l m)&&l.length==m.length)=cR l m:=by
 by_cases h:l.length=m.length
 . rw[h,Nat.min_self,<- h,oY l m h];simp
 .
  rw[oZ l m h];have:(l.length==m.length)=false:=by simpa using h
  rw[this,CB]
theorem o7{l:List D}{j:Nat}{d:D}(e:l[j]?=some d):dep d<=deps l:=by
 induction l generalizing j with
 |nil=>exact nomatch (show none=some d from e)
 |cons d' l ih=>cases j with
  |zero=>cases (show some d'=some d from e);exact Nat.le_max_left _ _
  |succ j=>exact hV (ih (show l[j]?=some d from e)) (Nat.le_max_right _ _)
theorem jZ.get{h:Heap}{l:List D}{us:List Value}{j:Nat}{u:Value}(q:jZ h l us)(e:us[j]?=some u):∃d,l[j]?=some d/\Dv h d u:=by
 induction l generalizing us j with
 |nil=>cases q;exact nomatch (show none=some u from e)
 |cons d' l ih=>cases q with |@cons _ _ u' us a b=>cases j with
  |zero=>cases (show some u'=some u from e);exact⟨_,rfl,a⟩
  |succ j=>obtain⟨d,h⟩:=ih (j:=j) b e;exact⟨d,h⟩
theorem in1_units(A:Around):A.in1.units=A.units+1:=rfl
section
theorem kh(hl:s.heap.IsList l us.toArray)(hb:s.heap.IsList b ws.toArray)(q:jZ s.heap ls us)(q':jZ s.heap ms ws)(hu:A.units<cLine)
  (he:∀(j:Nat) d1 d2 u1 u2,ls[j]?=some d1->Dv s.heap d1 u1->Dv s.heap d2 u2->SeqAt.EqAt A.in1 s u1 u2 (cD d1 d2)):SeqAt.RcAt A s (.ref l) (.ref b) (cR ls ms):=by
 have h1:=q.length;have h2:=q'.length;by_cases h:ls.length=ms.length
 .
  rw[<- oY ls ms h];have e:us.toArray.size=ls.length:=by rw[b6,h1]
  rw[<- e];refine SeqAt.RcAt.lists hl hb (by rw[b6,b6];lia) hu λj g1 g2=>?_
  rw[b6]at g1 g2;obtain⟨d1,e1,v1⟩:=q.get (j:=j) (u:=us[j]) (by simp[g1])
  obtain⟨d2,e2,v2⟩:=q'.get (j:=j) (u:=ws[j]) (by simp[g2])
  have:=he j d1 d2 us[j] ws[j] e1 v1 v2;simpa [Oz,e1,e2]using this
 . rw[oZ ls ms h];refine SeqAt.RcAt.lists_lengths hl hb ?_ hu;rw[b6,b6];simp only[bne_iff_ne];lia
theorem Bo(hl:IsTup s.heap l us.toArray)(hb:IsTup s.heap b ws.toArray)(q:jZ s.heap ls us)(q':jZ s.heap ms ws)(hu:A.units<cLine)
  (he:∀(j:Nat) d1 d2 u1 u2,ls[j]?=some d1->Dv s.heap d1 u1->Dv s.heap d2 u2->SeqAt.EqAt A.in1 s u1 u2 (cD d1 d2)):SeqAt.RcAt A s (.ref l) (.ref b) (cR ls ms):=by
 have h1:=q.length;have h2:=q'.length;have e:us.toArray.size=ls.length:=by rw[b6,h1]
 have e':ws.toArray.size=ms.length:=by rw[b6,h2]
 rw[<- vh,<- e,<- e'];refine SeqAt.RcAt.tuples hl hb hu λj g1 g2=>?_
 rw[b6]at g1 g2;obtain⟨d1,e1,v1⟩:=q.get (j:=j) (u:=us[j]) (by simp[g1])
 obtain⟨d2,e2,v2⟩:=q'.get (j:=j) (u:=ws[j]) (by simp[g2])
 have:=he j d1 d2 us[j] ws[j] e1 v1 v2;simpa [Oz,e1,e2]using this
theorem iA(x:Dv s.heap d1 (.ref l))(y:Dv s.heap d2 (.ref b))(h:SeqAt.RcAt A s (.ref l) (.ref b) (cD d1 d2)):SeqAt.EqAt A s (.ref l) (.ref b) (cD d1 d2):=by
 by_cases e:l=b
 . subst e;rw[Ky x y];exact .same _
 . exact .of_refs e h
end
theorem rG{s:Shared}:∀(n:Nat) {d1 d2:D}{u1 u2:Value}{A:Around},dep d1<=n->Dv s.heap d1 u1->Dv s.heap d2 u2->A.units+n<cLine->SeqAt.EqAt A s u1 u2 (cD d1 d2)/\SeqAt.RcAt A s u1 u2 (cD d1 d2):=by
 intro n
 induction n with
 |zero=>
  intro d1 d2 u1 u2 A hn x y hu;have aY:A.units<cLine:=by lia
  cases x with
  |tup h q=>exact absurd hn (B3 _)
  |lst h q=>exact absurd hn (B3 _)
  |fix h q=>exact absurd hn (B3 _)
  |non=>
   cases y with
   |non=>exact⟨.same _,.none_none⟩
   |bl c'=>exact⟨.none_bool c',.none_bool c'⟩
   |int c' t'=>exact⟨.none_int c' t',.none_int c' t'⟩
   |str c' t'=>exact⟨.none_str c' t',.none_str c' t'⟩
   |tup h' q'=>exact⟨.none_tuple h' aY,.none_tuple h' aY⟩
   |lst h' q'=>exact⟨.none_list h' aY,.none_list h' aY⟩
   |fix h' q'=>exact⟨.none_list h' aY,.none_list h' aY⟩
  |bl c=>
   cases y with
   |non=>exact⟨.bool_none c,.bool_none c⟩
   |bl c'=>exact⟨.bool_bool c c',.bool_bool c c'⟩
   |int c' t'=>exact⟨.bool_int c c' t',.bool_int c c' t'⟩
   |str c' t'=>exact⟨.bool_str c c' t',.bool_str c c' t'⟩
   |tup h' q'=>exact⟨.bool_tuple c h' aY,.bool_tuple c h' aY⟩
   |lst h' q'=>exact⟨.bool_list c h' aY,.bool_list c h' aY⟩
   |fix h' q'=>exact⟨.bool_list c h' aY,.bool_list c h' aY⟩
  |int c t=>
   cases y with
   |non=>exact⟨.int_none c t,.int_none c t⟩
   |bl c'=>exact⟨.int_bool c t c',.int_bool c t c'⟩
   |int c' t'=>exact⟨.int_int c t c' t',.int_int c t c' t'⟩
   |str c' t'=>exact⟨.int_str c t c' t',.int_str c t c' t'⟩
   |tup h' q'=>exact⟨.int_tuple c t h' aY,.int_tuple c t h' aY⟩
   |lst h' q'=>exact⟨.int_list c t h' aY,.int_list c t h' aY⟩
   |fix h' q'=>exact⟨.int_list c t h' aY,.int_list c t h' aY⟩
  |str c t=>
   cases y with
   |non=>exact⟨.str_none c t,.str_none c t⟩
   |bl c'=>exact⟨.str_bool c t c',.str_bool c t c'⟩
   |int c' t'=>exact⟨.str_int c t c' t',.str_int c t c' t'⟩
   |str c' t'=>exact⟨.str_str c t c' t',.str_str c t c' t'⟩
   |tup h' q'=>exact⟨.str_tuple c t h' aY,.str_tuple c t h' aY⟩
   |lst h' q'=>exact⟨.str_list c t h' aY,.str_list c t h' aY⟩
   |fix h' q'=>exact⟨.str_list c t h' aY,.str_list c t h' aY⟩
 |succ n ih=>
  intro d1 d2 u1 u2 A hn x y hu;have aY:A.units<cLine:=by lia
  have el:∀{l:List D},deps l<=n->∀(j:Nat) d1 d2 u1 u2,l[j]?=some d1->Dv s.heap d1 u1->Dv s.heap d2 u2->SeqAt.EqAt A.in1 s u1 u2 (cD d1 d2):=λhl j d1 d2 u1 u2 e v1 v2=>
   (ih (hV (o7 e) hl) v1 v2 (by rw[in1_units];lia)).1
  cases x with
  |@tup l0 a0 us0 h q=>
   have hn':deps l0<=n:=BC hn;have x:=Dv.tup h q;cases y with
   |tup h' q'=>have r:=Bo h h' q q' aY (el hn');exact⟨iA x (.tup h' q') r,r⟩
   |lst h' q'=>exact⟨.tuple_list h h' aY,.tuple_list h h' aY⟩
   |fix h' q'=>exact⟨.tuple_list h h' aY,.tuple_list h h' aY⟩
   |non=>exact⟨.tuple_none h aY,.tuple_none h aY⟩
   |bl b=>exact⟨.tuple_bool b h aY,.tuple_bool b h aY⟩
   |int b t=>exact⟨.tuple_int b t h aY,.tuple_int b t h aY⟩
   |str b t=>exact⟨.tuple_str b t h aY,.tuple_str b t h aY⟩
  |@lst l0 a0 us0 h q=>
   have hn':deps l0<=n:=BC hn;have x:=Dv.lst h q;cases y with
   |tup h' q'=>exact⟨.list_tuple h h' aY,.list_tuple h h' aY⟩
   |lst h' q'=>have r:=kh h h' q q' aY (el hn');exact⟨iA x (.lst h' q') r,r⟩
   |fix h' q'=>have r:=kh h h' q q' aY (el hn');exact⟨iA x (.fix h' q') r,r⟩
   |non=>exact⟨.list_none h aY,.list_none h aY⟩
   |bl b=>exact⟨.list_bool b h aY,.list_bool b h aY⟩
   |int b t=>exact⟨.list_int b t h aY,.list_int b t h aY⟩
   |str b t=>exact⟨.list_str b t h aY,.list_str b t h aY⟩
  |@fix l0 a0 us0 h q=>
   have hn':deps l0<=n:=BC hn;have x:=Dv.fix h q;cases y with
   |tup h' q'=>exact⟨.list_tuple h h' aY,.list_tuple h h' aY⟩
   |lst h' q'=>have r:=kh h h' q q' aY (el hn');exact⟨iA x (.lst h' q') r,r⟩
   |fix h' q'=>have r:=kh h h' q q' aY (el hn');exact⟨iA x (.fix h' q') r,r⟩
   |non=>exact⟨.list_none h aY,.list_none h aY⟩
   |bl b=>exact⟨.list_bool b h aY,.list_bool b h aY⟩
   |int b t=>exact⟨.list_int b t h aY,.list_int b t h aY⟩
   |str b t=>exact⟨.list_str b t h aY,.list_str b t h aY⟩
  |non=>
   cases y with
   |non=>exact⟨.same _,.none_none⟩
   |bl c'=>exact⟨.none_bool c',.none_bool c'⟩
   |int c' t'=>exact⟨.none_int c' t',.none_int c' t'⟩
   |str c' t'=>exact⟨.none_str c' t',.none_str c' t'⟩
   |tup h' q'=>exact⟨.none_tuple h' aY,.none_tuple h' aY⟩
   |lst h' q'=>exact⟨.none_list h' aY,.none_list h' aY⟩
   |fix h' q'=>exact⟨.none_list h' aY,.none_list h' aY⟩
  |bl c=>
   cases y with
   |non=>exact⟨.bool_none c,.bool_none c⟩
   |bl c'=>exact⟨.bool_bool c c',.bool_bool c c'⟩
   |int c' t'=>exact⟨.bool_int c c' t',.bool_int c c' t'⟩
   |str c' t'=>exact⟨.bool_str c c' t',.bool_str c c' t'⟩
   |tup h' q'=>exact⟨.bool_tuple c h' aY,.bool_tuple c h' aY⟩
   |lst h' q'=>exact⟨.bool_list c h' aY,.bool_list c h' aY⟩
   |fix h' q'=>exact⟨.bool_list c h' aY,.bool_list c h' aY⟩
  |int c t=>
   cases y with
   |non=>exact⟨.int_none c t,.int_none c t⟩
   |bl c'=>exact⟨.int_bool c t c',.int_bool c t c'⟩
   |int c' t'=>exact⟨.int_int c t c' t',.int_int c t c' t'⟩
   |str c' t'=>exact⟨.int_str c t c' t',.int_str c t c' t'⟩
   |tup h' q'=>exact⟨.int_tuple c t h' aY,.int_tuple c t h' aY⟩
   |lst h' q'=>exact⟨.int_list c t h' aY,.int_list c t h' aY⟩
   |fix h' q'=>exact⟨.int_list c t h' aY,.int_list c t h' aY⟩
  |str c t=>
   cases y with
   |non=>exact⟨.str_none c t,.str_none c t⟩
   |bl c'=>exact⟨.str_bool c t c',.str_bool c t c'⟩
   |int c' t'=>exact⟨.str_int c t c' t',.str_int c t c' t'⟩
   |str c' t'=>exact⟨.str_str c t c' t',.str_str c t c' t'⟩
   |tup h' q'=>exact⟨.str_tuple c t h' aY,.str_tuple c t h' aY⟩
   |lst h' q'=>exact⟨.str_list c t h' aY,.str_list c t h' aY⟩
   |fix h' q'=>exact⟨.str_list c t h' aY,.str_list c t h' aY⟩
section
variable{K:Frag}
theorem Pk.int{i:Int}(h:Pk K M H (.int i) v):v=.int i:=by cases h with |of r=>cases r;rfl
theorem Pk.bl(h:Pk K M H (.bl i) v):v=.bl i:=by cases h with |of r=>cases r;rfl
theorem Pk.str(h:Pk K M H (.str i) v):v=.str i:=by cases h with |of r=>cases r;rfl
theorem Pk.non(h:Pk K M H .non v):v=.non:=by cases h with |of r=>cases r;rfl
theorem Pk.tup{l:List D}(h:Pk K M H (.tup l) v):∃a xs,v=.ref a/\TupAt K M H a xs/\aH K M H l xs:=by cases h with |of r=>cases r with |tup h1 h2=>exact⟨_,_,rfl,h1,h2⟩
theorem Pk.fix{l:List D}(h:Pk K M H (.fix l) v):∃a xs,v=.ref a/\oO K M H a xs/\aH K M H l xs:=by cases h with |of r=>cases r with |fix h1 h2=>exact⟨_,_,rfl,h1,h2⟩
end
section
theorem nW{f:Value->Value->Sem Value}{k:Int->Int->Int}{i j:Int}(h:jX X f (DG λi j=>.int (k i j))):jY X z f (.int i) (.int j) (.dat (.int (k i j))):=
 ⟨_,h,λg σ As M H v1 v2 Q s p1 p2 kk=>⟨i,j,p1.int,p2.int,kk _ H As M s (az.refl _ _) (.int _)⟩⟩
theorem o8{f:Value->Value->Sem Value}{C:Int->Int->Prop}{k:Int->Int->Int}{i j:Int}(h:jX X f (rI C λi j=>.int (k i j)))(hc:C i j):jY X z f (.int i) (.int j) (.dat (.int (k i j))):=
 ⟨_,h,λg σ As M H v1 v2 Q s p1 p2 kk=>⟨i,j,p1.int,p2.int,hc,kk _ H As M s (az.refl _ _) (.int _)⟩⟩
theorem tM{f:Value->Value->Sem Value}{k:Int->Int->Bool}{i j:Int}(h:jX X f (DG λi j=>.bl (k i j))):jY X z f (.int i) (.int j) (.dat (.bl (k i j))):=
 ⟨_,h,λg σ As M H v1 v2 Q s p1 p2 kk=>⟨i,j,p1.int,p2.int,kk _ H As M s (az.refl _ _) (.bl _)⟩⟩
def Fo(z:Z)(d1 d2:D)(b:Bool):R2:=λx y H Q=>(∃M,Pk z.K M H d1 x/\Pk z.K M H d2 y)/\Q (.bl b) H
theorem Xi(hK:z.K=X.K)(p1:gF d1=true)(p2:gF d2=true)(hd:X.A.units+dep d1<cLine):jY X z (compareOp .Eq) d1 d2 (.dat (.bl (cD d1 d2))):=by
 refine⟨Fo z d1 d2 (cD d1 d2),?_,λg σ As M H v1 v2 Q s q1 q2 kk=>⟨⟨M,q1,q2⟩,kk _ H As M s (az.refl _ _) (.bl _)⟩⟩
 intro ah s σ H x y v u Q I rx ry h;obtain⟨⟨M,q1,q2⟩,q⟩:=h;rw[hK]at q1 q2;exact (rG (dep d1) (d5 _) (q1.dv I rx p1) (q2.dv I ry p2) hd).2 X.prog X.w X.xe _ ⟨.bl _,H,I,rfl,q⟩
section
theorem ki(hl:s.heap.IsList l us.toArray)(hb:s.heap.IsList b ws.toArray)(q:jZ s.heap ls us)(q':jZ s.heap ms ws)(hu:A.units<cLine)
  (he:∀(j:Nat) d1 d2 u1 u2,ls[j]?=some d1->Dv s.heap d1 u1->Dv s.heap d2 u2->SeqAt.EqAt A.in1 s u1 u2 (cD d1 d2)):SeqAt.RcNeAt A s (.ref l) (.ref b) (!cR ls ms):=by
 have h1:=q.length;have h2:=q'.length;by_cases h:ls.length=ms.length
 .
  rw[<- oY ls ms h];have e:us.toArray.size=ls.length:=by rw[b6,h1]
  rw[<- e];refine SeqAt.RcNeAt.lists hl hb (by rw[b6,b6];lia) hu λj g1 g2=>?_
  rw[b6]at g1 g2;obtain⟨d1,e1,v1⟩:=q.get (j:=j) (u:=us[j]) (by simp[g1])
  obtain⟨d2,e2,v2⟩:=q'.get (j:=j) (u:=ws[j]) (by simp[g2])
  have:=he j d1 d2 us[j] ws[j] e1 v1 v2;simpa [Oz,e1,e2]using this
 . rw[oZ ls ms h];refine SeqAt.RcNeAt.lists_lengths hl hb ?_ hu;rw[b6,b6];simp only[bne_iff_ne];lia
theorem Bp(hl:IsTup s.heap l us.toArray)(hb:IsTup s.heap b ws.toArray)(q:jZ s.heap ls us)(q':jZ s.heap ms ws)(hu:A.units<cLine)
  (he:∀(j:Nat) d1 d2 u1 u2,ls[j]?=some d1->Dv s.heap d1 u1->Dv s.heap d2 u2->SeqAt.EqAt A.in1 s u1 u2 (cD d1 d2)):SeqAt.RcNeAt A s (.ref l) (.ref b) (!cR ls ms):=by
 have h1:=q.length;have h2:=q'.length;have e:us.toArray.size=ls.length:=by rw[b6,h1]
 have e':ws.toArray.size=ms.length:=by rw[b6,h2]
 rw[<- vh,<- e,<- e'];refine SeqAt.RcNeAt.tuples hl hb hu λj g1 g2=>?_
 rw[b6]at g1 g2;obtain⟨d1,e1,v1⟩:=q.get (j:=j) (u:=us[j]) (by simp[g1])
 obtain⟨d2,e2,v2⟩:=q'.get (j:=j) (u:=ws[j]) (by simp[g2])
 have:=he j d1 d2 us[j] ws[j] e1 v1 v2;simpa [Oz,e1,e2]using this
end
theorem Xj(x:Dv s.heap d1 u1)(y:Dv s.heap d2 u2)(hu:A.units+dep d1<cLine):SeqAt.RcNeAt A s u1 u2 (!cD d1 d2):=by
 have aY:A.units<cLine:=by lia
 have el:∀{l:List D},deps l+1<=dep d1->∀(j:Nat) d1 d2 u1 u2,l[j]?=some d1->Dv s.heap d1 u1->Dv s.heap d2 u2->SeqAt.EqAt A.in1 s u1 u2 (cD d1 d2):=λhl j e1 e2 u1 u2 e v1 v2=>
  (rG (dep e1) (d5 _) v1 v2 (by rw[in1_units];have:=o7 e;lia)).1
 cases x with
 |tup h q=>
  cases y with
  |tup h' q'=>exact Bp h h' q q' aY (el (by simp[dep]))
  |lst h' q'=>exact .tuple_list h h' aY
  |fix h' q'=>exact .tuple_list h h' aY
  |non=>exact .tuple_none h aY
  |bl b=>exact .tuple_bool b h aY
  |int b t=>exact .tuple_int b t h aY
  |str b t=>exact .tuple_str b t h aY
 |lst h q=>
  cases y with
  |tup h' q'=>exact .list_tuple h h' aY
  |lst h' q'=>exact ki h h' q q' aY (el (by simp[dep]))
  |fix h' q'=>exact ki h h' q q' aY (el (by simp[dep]))
  |non=>exact .list_none h aY
  |bl b=>exact .list_bool b h aY
  |int b t=>exact .list_int b t h aY
  |str b t=>exact .list_str b t h aY
 |fix h q=>
  cases y with
  |tup h' q'=>exact .list_tuple h h' aY
  |lst h' q'=>exact ki h h' q q' aY (el (by simp[dep]))
  |fix h' q'=>exact ki h h' q q' aY (el (by simp[dep]))
  |non=>exact .list_none h aY
  |bl b=>exact .list_bool b h aY
  |int b t=>exact .list_int b t h aY
  |str b t=>exact .list_str b t h aY
 |non=>
  cases y with
  |non=>exact .none_none
  |bl c'=>exact .none_bool c'
  |int c' t'=>exact .none_int c' t'
  |str c' t'=>exact .none_str c' t'
  |tup h' q'=>exact .none_tuple h' aY
  |lst h' q'=>exact .none_list h' aY
  |fix h' q'=>exact .none_list h' aY
 |bl c=>
  cases y with
  |non=>exact .bool_none c
  |bl c'=>exact .bool_bool c c'
  |int c' t'=>exact .bool_int c c' t'
  |str c' t'=>exact .bool_str c c' t'
  |tup h' q'=>exact .bool_tuple c h' aY
  |lst h' q'=>exact .bool_list c h' aY
  |fix h' q'=>exact .bool_list c h' aY
 |int c t=>
  cases y with
  |non=>exact .int_none c t
  |bl c'=>exact .int_bool c t c'
  |int c' t'=>exact .int_int c t c' t'
  |str c' t'=>exact .int_str c t c' t'
  |tup h' q'=>exact .int_tuple c t h' aY
  |lst h' q'=>exact .int_list c t h' aY
  |fix h' q'=>exact .int_list c t h' aY
 |str c t=>
  cases y with
  |non=>exact .str_none c t
  |bl c'=>exact .str_bool c t c'
  |int c' t'=>exact .str_int c t c' t'
  |str c' t'=>exact .str_str c t c' t'
  |tup h' q'=>exact .str_tuple c t h' aY
  |lst h' q'=>exact .str_list c t h' aY
  |fix h' q'=>exact .str_list c t h' aY
theorem Xk(hK:z.K=X.K)(p1:gF d1=true)(p2:gF d2=true)(hd:X.A.units+dep d1<cLine):jY X z (compareOp .NotEq) d1 d2 (.dat (.bl (!cD d1 d2))):=by
 refine⟨Fo z d1 d2 (!cD d1 d2),?_,λg σ As M H v1 v2 Q s q1 q2 kk=>⟨⟨M,q1,q2⟩,kk _ H As M s (az.refl _ _) (.bl _)⟩⟩
 intro ah s σ H x y v u Q I rx ry h;obtain⟨⟨M,q1,q2⟩,q⟩:=h;rw[hK]at q1 q2;exact Xj (q1.dv I rx p1) (q2.dv I ry p2) hd X.prog X.w X.xe _ ⟨.bl _,H,I,rfl,q⟩
theorem Fp(q:Dv h d u):∀d' x,Dv h d' u->cD d x=cD d' x:=by
 have two:∀{l l':List D} (x:D),(∀m,cR l m=cR l' m)->cD (.lst l) x=cD (.lst l') x/\cD (.fix l) x=cD (.lst l') x/\cD (.lst l) x=cD (.fix l') x/\cD (.fix l) x=cD (.fix l') x:=λx k=>by
  cases x with
  |lst m=>exact⟨k m,k m,k m,k m⟩
  |fix m=>exact⟨k m,k m,k m,k m⟩
  |_=>exact⟨rfl,rfl,rfl,rfl⟩
 refine Dv.rec (motive_1:=λd u _=>∀d' x,Dv h d' u->cD d x=cD d' x) (motive_2:=λl us _=>∀l' m,jZ h l' us->cR l m=cR l' m) ?_ ?_ ?_ ?_ ?_ ?_ ?_ ?_ ?_ q
 . intro d' x q;cases q;rfl
 . intro b d' x q;cases q;rfl
 . intro i t d' x q;cases q;rfl
 . intro y t d' x q;cases q;rfl
 .
  intro l a us k _ ih d' x q;cases q with
  |tup y q'=>
   cases rF k y;cases x with
   |tup m=>exact ih _ m q'
   |_=>rfl
  |lst y _=>exact (eF k y).elim
  |fix y _=>exact (eF k y).elim
 .
  intro l a us k _ ih d' x q;cases q with
  |tup y _=>exact (eF y k).elim
  |lst y q'=>cases cK k y;exact (two x λm=>ih _ m q').1
  |fix y q'=>cases cK k y;exact (two x λm=>ih _ m q').2.2.1
 .
  intro l a us k _ ih d' x q;cases q with
  |tup y _=>exact (eF y k).elim
  |lst y q'=>cases cK k y;exact (two x λm=>ih _ m q').2.1
  |fix y q'=>cases cK k y;exact (two x λm=>ih _ m q').2.2.2
 . intro l' m q;cases q;rfl
 .
  intro d ds u us _ _ i1 i2 l' m q;cases q with
  |@cons d' l' _ _ b q'=>cases m with
   |nil=>rfl
   |cons y m=>show (cD d y&&cR ds m)=(cD d' y&&cR l' m);rw[i1 _ y b,i2 _ m q']
theorem Kz(x:D)(q:Dv h d u)(q':Dv h d' u):cD d x=cD d' x:=Fp q d' x q'
open Classical in
def mU(h:Heap)(x:D)(u:Value):Bool:=decide (∃d,Dv h d u/\cD d x=true)
open Classical in
theorem xU(q:Dv h d u):mU h x u=cD d x:=by
 unfold mU;cases e:cD d x with
 |true=>exact lL ⟨d,q,e⟩
 |false=>refine l6 ?_;rintro⟨d',q',e'⟩;rw[Kz x q' q,e]at e';cases e'
theorem iZ(q:jZ h l us):us.any (mU h x)=l.any λd=>cD d x:=by
 induction l generalizing us with
 |nil=>cases q;rfl
 |cons d l ih=>cases q with |cons a b=>rw[List.any_cons,List.any_cons,xU a,ih b]
def Xl(z:Z)(d1 d2:D)(b:Bool):R2:=Fo z d1 d2 b
theorem gQ{A:Around}{s:Shared}{x:D}{u:Value}{l:List D}{us:List Value}(q:jZ s.heap l us)(hx:Dv s.heap x u)(hu:A.units+deps l+1<cLine):∀y,y∈us.toArray->SeqAt.EqAt A.in1 s y u (mU s.heap x y):=by
 intro y hy;have hy':y∈us:=by simpa using hy
 obtain⟨j,hj⟩:=B4 hy';obtain⟨d,e,qd⟩:=q.get hj;rw[xU qd];have:=o7 e;exact (rG (dep d) (d5 _) qd hx (by rw[in1_units];lia)).1
noncomputable def bF:D->Option (List D)
 |.lst l=>some l
 |.tup l=>some l
 |.fix l=>some l
 |_=>none
theorem Xm(hK:z.K=X.K)(hs:bF d2=some l)(p1:gF d1=true)(p2:fc l=true)(hd:X.A.units+deps l+1<cLine):jY X z (compareOp .In) d1 d2 (.dat (.bl (l.any λd=>cD d d1))):=by
 refine⟨Xl z d1 d2 (l.any λd=>cD d d1),?_,λg σ As M H v1 v2 Q s q1 q2 kk=>⟨⟨M,q1,q2⟩,kk _ H As M s (az.refl _ _) (.bl _)⟩⟩
 intro ah s σ H x y v u Q I rx ry h;obtain⟨⟨M,q1,q2⟩,q⟩:=h;rw[hK]at q1 q2;have hx:=q1.dv I rx p1;cases d2 with
 |lst m=>
  cases hs;obtain⟨a,xs,rfl,ha,rr⟩:=q2.list;cases ry;obtain⟨aA,rv,pl,hz⟩:=I.list (bY.of ha);have fG:=rr.dv I rv p2;refine SeqAt.in_listAt (mU s.heap d1) pl.isList (gQ fG hx hd) ⟨.bl _,H,I,rfl,?_⟩;rw[show aA.toArray.any (mU s.heap d1)=aA.any (mU s.heap d1)by simp,iZ fG]
  exact q
 |fix m=>
  cases hs;obtain⟨a,xs,rfl,ha,rr⟩:=q2.fix;cases ry;obtain⟨aA,rv,pl,hz⟩:=I.list ha.sq;have fG:=rr.dv I rv p2;refine SeqAt.in_listAt (mU s.heap d1) pl.isList (gQ fG hx hd) ⟨.bl _,H,I,rfl,?_⟩;rw[show aA.toArray.any (mU s.heap d1)=aA.any (mU s.heap d1)by simp,iZ fG]
  exact q
 |tup m=>
  cases hs;obtain⟨a,xs,rfl,ha,rr⟩:=q2.tup;cases ry;obtain⟨aA,rv,pl,hz⟩:=I.tuple ha.sq;have fG:=rr.dv I rv p2;refine SeqAt.in_tupleAt (mU s.heap d1) pl (gQ fG hx hd) ⟨.bl _,H,I,rfl,?_⟩;rw[show aA.toArray.any (mU s.heap d1)=aA.any (mU s.heap d1)by simp,iZ fG]
  exact q
 |_=>cases hs
theorem Fq(hK:z.K=X.K)(hs:bF d2=some l)(p1:gF d1=true)(p2:fc l=true)(hd:X.A.units+deps l+1<cLine):jY X z (compareOp .NotIn) d1 d2 (.dat (.bl (!l.any λd=>cD d d1))):=by
 refine⟨Xl z d1 d2 (!l.any λd=>cD d d1),?_,λg σ As M H v1 v2 Q s q1 q2 kk=>⟨⟨M,q1,q2⟩,kk _ H As M s (az.refl _ _) (.bl _)⟩⟩
 intro ah s σ H x y v u Q I rx ry h;obtain⟨⟨M,q1,q2⟩,q⟩:=h;rw[hK]at q1 q2;have hx:=q1.dv I rx p1;cases d2 with
 |lst m=>
  cases hs;obtain⟨a,xs,rfl,ha,rr⟩:=q2.list;cases ry;obtain⟨aA,rv,pl,hz⟩:=I.list (bY.of ha);have fG:=rr.dv I rv p2;refine SeqAt.notIn_listAt (mU s.heap d1) pl.isList (gQ fG hx hd) ⟨.bl _,H,I,rfl,?_⟩;rw[show aA.toArray.any (mU s.heap d1)=aA.any (mU s.heap d1)by simp,iZ fG]
  exact q
 |fix m=>
  cases hs;obtain⟨a,xs,rfl,ha,rr⟩:=q2.fix;cases ry;obtain⟨aA,rv,pl,hz⟩:=I.list ha.sq;have fG:=rr.dv I rv p2;refine SeqAt.notIn_listAt (mU s.heap d1) pl.isList (gQ fG hx hd) ⟨.bl _,H,I,rfl,?_⟩;rw[show aA.toArray.any (mU s.heap d1)=aA.any (mU s.heap d1)by simp,iZ fG]
  exact q
 |tup m=>
  cases hs;obtain⟨a,xs,rfl,ha,rr⟩:=q2.tup;cases ry;obtain⟨aA,rv,pl,hz⟩:=I.tuple ha.sq;have fG:=rr.dv I rv p2;refine SeqAt.notIn_tupleAt (mU s.heap d1) pl (gQ fG hx hd) ⟨.bl _,H,I,rfl,?_⟩;rw[show aA.toArray.any (mU s.heap d1)=aA.any (mU s.heap d1)by simp,iZ fG]
  exact q
 |_=>cases hs
theorem vj(b:Bool)(r:RelV x v):plainIs v (.bool b)=true/\(v==Value.bool b)=decide (x=V.bl b):=by
 cases x with
 |non=>cases r;exact⟨rfl,rfl⟩
 |bl c=>cases r;exact⟨rfl,by cases c <;> cases b <;> rfl⟩
 |int _=>obtain⟨t,rfl⟩:=r;exact⟨rfl,rfl⟩
 |str _=>obtain⟨t,rfl⟩:=r;exact⟨rfl,rfl⟩
 |Ol _=>obtain⟨t,rfl⟩:=r;exact⟨rfl,rfl⟩
 |flt _=>obtain⟨t,rfl⟩:=r;exact⟨rfl,rfl⟩
 |ref _=>cases r;exact⟨rfl,rfl⟩
 |ty _=>cases r;exact⟨rfl,rfl⟩
def OD(d:D)(b:Bool):Bool:=match d with |.bl c=>c==b |_=>false
theorem Ft{K:Frag}{M:List Addr}{H:Hp}{d:D}{x:V}{b:Bool}(h:Pk K M H d x):decide (x=V.bl b)=OD d b:=by
 cases h with
 |of r=>
  cases r with
  |bl c=>cases c <;> cases b <;> rfl
  |_=>rfl
 |lst _ _=>rfl
theorem Xn{d1:D}{b:Bool}:jY X z (compareOp .Is) d1 (.bl b) (.dat (.bl (OD d1 b))):=by
 refine⟨Fo z d1 (.bl b) (OD d1 b),?_,λg σ As M H v1 v2 Q s q1 q2 kk=>⟨⟨M,q1,q2⟩,kk _ H As M s (az.refl _ _) (.bl _)⟩⟩
 intro ah s σ H x y v u Q I rx ry h;obtain⟨⟨M,q1,q2⟩,q⟩:=h;have e:=q2.bl;subst e;cases ry;obtain⟨h1,h2⟩:=vj b rx;refine wpAny_is_plain h1 ⟨.bl (OD d1 b),H,I,?_,q⟩;rw[h2,Ft q1];rfl
theorem Fv{d1:D}{b:Bool}:jY X z (compareOp .IsNot) d1 (.bl b) (.dat (.bl (!OD d1 b))):=by
 refine⟨Fo z d1 (.bl b) (!OD d1 b),?_,λg σ As M H v1 v2 Q s q1 q2 kk=>⟨⟨M,q1,q2⟩,kk _ H As M s (az.refl _ _) (.bl _)⟩⟩
 intro ah s σ H x y v u Q I rx ry h;obtain⟨⟨M,q1,q2⟩,q⟩:=h;have e:=q2.bl;subst e;cases ry;obtain⟨h1,h2⟩:=vj b rx;refine wpAny_isNot_plain h1 ⟨.bl (!OD d1 b),H,I,?_,q⟩;rw[h2,Ft q1];rfl
def KC(d:D):Bool:=match d with |.non=>true |_=>false
theorem Fw{K:Frag}{M:List Addr}{H:Hp}{d:D}{x:V}(h:Pk K M H d x):decide (x=V.non)=KC d:=by
 cases h with
 |of r=>cases r <;> rfl
 |lst _ _=>rfl
theorem Rq{d1:D}:jY X z (compareOp .Is) d1 .non (.dat (.bl (KC d1))):=
 ⟨_,Qv,λg σ As M H v1 v2 Q s q1 q2 kk=>⟨q2.non,by rw[Fw q1];exact kk _ H As M s (az.refl _ _) (.bl _)⟩⟩
theorem KD{d1:D}:jY X z (compareOp .IsNot) d1 .non (.dat (.bl (!KC d1))):=
 ⟨_,JZ,λg σ As M H v1 v2 Q s q1 q2 kk=>⟨q2.non,by rw[Fw q1];exact kk _ H As M s (az.refl _ _) (.bl _)⟩⟩
theorem Rr(h:l.length+m.length<=16777216):jY X z (binaryOp .Add) (.lst l) (.lst m) (.new (l++m)):=by
 refine⟨_,QL,λg σ As M H v1 v2 Q s q1 q2 kk=>?_⟩
 obtain⟨a,xs,rfl,ha,ra⟩:=q1.list;obtain⟨b,ys,rfl,hb,rb⟩:=q2.list;refine⟨a,b,xs,ys,rfl,rfl,ha,hb,by rw[<- ra.length,<- rb.length];exact oW h,λp hp=>?_⟩
 exact kk _ _ As (p::M) (s.aW hp) (az.aW hp) ⟨p,_,rfl,bP,λhA=>s.fresh hp (s.sub p hA),s.cI hp,aI,(ra.append rb).stay (az.aW hp)⟩
theorem Rt(h1 : -(2 ^ 63)<=k)(h2:k<2 ^ 63)(h:l.length * k.toNat<=16777216):jY X z (binaryOp .Mult) (.lst l) (.int k) (.new (List.replicate k.toNat l).flatten):=by
 refine⟨_,QM,λg σ As M H v1 v2 Q s q1 q2 kk=>?_⟩
 obtain⟨a,xs,rfl,ha,ra⟩:=q1.list;have rr:∀n,aH z.K M H (List.replicate n l).flatten (List.replicate n xs).flatten:=λn=>by
  induction n with
  |zero=>simp;exact .nil
  |succ n ih=>rw[mN,mN,y0,y0];exact ra.append ih
 refine⟨a,k,xs,rfl,q2.int,ha,h1,h2,by rw[<- ra.length];exact oW h,λp hp=>?_⟩
 exact kk _ _ As (p::M) (s.aW hp) (az.aW hp) ⟨p,_,rfl,bP,λhA=>s.fresh hp (s.sub p hA),s.cI hp,aI,(rr _).stay (az.aW hp)⟩
def Ru(K:Frag):R2:=λx y H Q=>∃a b xs ys,x=.ref a/\y=.ref b/\fy K H a xs/\fy K H b ys/\xs.length+ys.length<=sizeLine/\
 (xs=[]->Q (.ref b) H)/\(xs≠[]->ys=[]->Q (.ref a) H)/\(xs≠[]->ys≠[]->∀p,H p=none->Q (.ref p) (upd H p (.tup (xs++ys))))
theorem Fy:jX X (binaryOp .Add) (Ru X.K):=by
 intro ah s σ H x y v u Q I rx ry h;obtain⟨a,b,xs,ys,rfl,rfl,ha,hb,hz,q0,q1,q2⟩:=h;by_cases hx:xs=[]
 .
  subst hx;cases rx;cases ry;obtain⟨aA,r1,p1,_⟩:=I.tuple ha;obtain⟨gX,r2,p2,_⟩:=I.tuple hb;cases r1;obtain⟨⟨cls,dd,data,sl⟩,ho,hc,n,hd⟩:=id p1;obtain⟨⟨QB,dd2,data2,sl2⟩,ho2,hc2,n2,hd2⟩:=id p2;simp only at hc hd hc2 hd2;subst hc hd hc2 hd2;exact concat_meets ⟨_,ho,rfl⟩ ⟨_,ho2,rfl⟩ noFill_tuple_add seq_tuple_add BA AZ (AV _ _)
   (tuple_addW0 a b #[] gX.toArray n n2 dd dd2 sl sl2 ⋯) ⟨ho,ho2,⟨.ref b,H,I,rfl,q0 rfl⟩⟩
 . exact J8 ah s σ H (.ref a) (.ref b) v u Q I rx ry ⟨a,b,xs,ys,rfl,rfl,ha,hb,hx,hz,q1 hx,q2 hx⟩
theorem KH(hK:z.K=X.K)(h:l.length+m.length<=16777216):jY X z (binaryOp .Add) (.tup l) (.tup m) (.dat (.tup (l++m))):=by
 refine⟨_,Fy,λg σ As M H v1 v2 Q s q1 q2 kk=>?_⟩
 obtain⟨a,xs,rfl,ha,ra⟩:=q1.tup;obtain⟨b,ys,rfl,hb,rb⟩:=q2.tup;have la:=ra.length;have lb:=rb.length;refine⟨a,b,xs,ys,rfl,rfl,hK▸ha.sq,hK▸hb.sq,by rw[<- la,<- lb];exact oW h,λe=>?_,λe1 e2=>?_,λe1 e2 p hp=>?_⟩
 .
  subst e;cases l with
  |nil=>exact kk _ H As M s (az.refl _ _) (.tup hb rb)
  |cons _ _=>simp at la
 .
  subst e2;cases m with
  |nil=>rw[o4]at kk;exact kk _ H As M s (az.refl _ _) (.tup ha ra)
  |cons _ _=>simp at lb
 . exact kk _ _ As M (s.laid hp) (az.laid hp) (.tup (.inl ⟨s.fresh hp,.inl aI⟩) ((ra.append rb).stay (az.laid hp)))
theorem o9{K:Frag}{M:List Addr}{H:Hp}{l:List D}{xs:List V}{i:Int}{d:D}(r:aH K M H l xs)(h:fB l i=some d):∃v,fB xs i=some v/\Rep K M H d v:=by
 unfold fB at h ⊢
 rw[<- r.length];cases e:nR l.length i with
 |none=>rw[e]at h;cases h
 |some j=>rw[e]at h;have h':l[j]?=some d:=h;obtain⟨v,h1,h2⟩:=r.get h';exact⟨v,h1,h2⟩
theorem Rv{l:List D}{i:Int}{d:D}(hK:z.K=X.K)(h:fB l i=some d):Vo X z (.lst l) (.int i) (.dat d):=by
 refine⟨_,sZ,λg σ As M H v1 v2 Q s q1 q2 kk=>?_⟩
 obtain⟨a,xs,rfl,ha,ra⟩:=q1.list;obtain⟨v,e,r⟩:=o9 ra h;exact⟨a,xs,i,v,rfl,q2.int,bY.of ha,e,kk _ H As M s (az.refl _ _) r⟩
theorem Rx{l:List D}{i:Int}{d:D}(hK:z.K=X.K)(h:fB l i=some d):Vo X z (.fix l) (.int i) (.dat d):=by
 refine⟨_,sZ,λg σ As M H v1 v2 Q s q1 q2 kk=>?_⟩
 obtain⟨a,xs,rfl,ha,ra⟩:=q1.fix;obtain⟨v,e,r⟩:=o9 ra h;exact⟨a,xs,i,v,rfl,q2.int,hK▸ha.sq,e,kk _ H As M s (az.refl _ _) r⟩
theorem KJ{l:List D}{i:Int}{d:D}(hK:z.K=X.K)(h:fB l i=some d):Vo X z (.tup l) (.int i) (.dat d):=by
 refine⟨_,QG,λg σ As M H v1 v2 Q s q1 q2 kk=>?_⟩
 obtain⟨a,xs,rfl,ha,ra⟩:=q1.tup;obtain⟨v,e,r⟩:=o9 ra h;exact⟨a,xs,i,v,rfl,q2.int,hK▸ha.sq,e,kk _ H As M s (az.refl _ _) r⟩
noncomputable def aP:List D->Option (List Int)
 | []=>some []
 |.int i::l=>match aP l with |some ns=>some (i::ns) |none=>none
 |_::_=>none
theorem aV{K:Frag}{M:List Addr}{H:Hp}{l:List D}{xs:List V}{ns:List Int}(q:aH K M H l xs)(e:aP l=some ns):xs=ns.map V.int:=by
 induction l generalizing xs ns with
 |nil=>cases q;cases e;rfl
 |cons d l ih=>cases q with |cons r q=>cases d with
  |int i=>
   have e:(match aP l with |some ns=>some (i::ns) |none=>none)=some ns:=e
   cases e2:aP l with
   |none=>rw[e2]at e;cases e
   |some ns=>rw[e2]at e;cases e;cases r;rw[List.map_cons,ih q e2]
  |_=>cases e
theorem Ry{l m:List D}{ns ms:List Int}(hK:z.K=X.K)(hu:X.A.units<cLine)(h1:aP l=some ns)(h2:aP m=some ms):jY X z (compareOp .Lt) (.tup l) (.tup m) (.dat (.bl (HT.lexLt ns ms))):=by
 refine⟨_,QF hu,λg σ As M H v1 v2 Q s q1 q2 kk=>?_⟩
 obtain⟨a,xs,rfl,ha,ra⟩:=q1.tup;obtain⟨b,ys,rfl,hb,rb⟩:=q2.tup;have e1:=aV ra h1;have e2:=aV rb h2;subst e1 e2;exact⟨a,b,ns,ms,rfl,rfl,hK▸ha.sq,hK▸hb.sq,kk _ H As M s (az.refl _ _) (.bl _)⟩
theorem Rz:UnD X z (unaryOp .USub) (.int i) (.dat (.int (-i))):=⟨_,Qu,λg σ As M H v Q s p k=>⟨i,p.int,k _ H As M s (az.refl _ _) (.int _)⟩⟩
end
section
theorem Kw.one{K:Frag}{M:List Addr}{H:Hp}{d:D}{vs:List V}(h:Kw K M H [d] vs):∃v,vs=[v]/\Pk K M H d v:=by cases h with |cons p q=>cases q;exact⟨_,rfl,p⟩
theorem Kw.two{K:Frag}{M:List Addr}{H:Hp}{d e:D}{vs:List V}(h:Kw K M H [d,e] vs):∃v w,vs=[v,w]/\Pk K M H d v/\Pk K M H e w:=by cases h with |cons p q=>cases q with |cons p' q'=>cases q';exact⟨_,_,rfl,p,p'⟩
noncomputable def Xo:D->Option Nat
 |.lst l=>some l.length
 |.tup l=>some l.length
 |.fix l=>some l.length
 |_=>none
theorem RB{d:D}{n:Nat}(hK:z.K=X.K)(h:Xo d=some n):CallD X z (.builtin "len") [d] (.dat (.int n)):=by
 refine⟨_,Eo,λg σ As M H vs Q s p k=>?_⟩
 obtain⟨v,rfl,pv⟩:=p.one;refine⟨v,n,rfl,?_,k _ H As M s (az.refl _ _) (.int _)⟩;cases d with
 |lst l=>cases h;obtain⟨a,xs,rfl,ha,r⟩:=pv.list;exact .inl ⟨xs,bY.of ha,r.length⟩
 |fix l=>cases h;obtain⟨a,xs,rfl,ha,r⟩:=pv.fix;exact .inl ⟨xs,hK▸ha.sq,r.length⟩
 |tup l=>cases h;obtain⟨a,xs,rfl,ha,r⟩:=pv.tup;exact .inr ⟨xs,hK▸ha.sq,r.length⟩
 |_=>cases h
theorem KN{d:D}{l:List D}(hK:z.K=X.K)(h:bF d=some l):CallD X z (.type "list") [d] (.new l):=by
 refine⟨_,tE,λg σ As M H vs Q s p k=>?_⟩
 obtain⟨v,rfl,pv⟩:=p.one;have fin:∀xs,aH z.K M H l xs->∀p,H p=none->Q (.ref p) (upd H p (.lst xs)):=λxs r p hp=>
  k _ _ As (p::M) (s.aW hp) (az.aW hp) ⟨p,xs,rfl,bP,λhA=>s.fresh hp (s.sub p hA),s.cI hp,aI,r.stay (az.aW hp)⟩
 cases d with
 |lst m=>cases h;obtain⟨a,xs,rfl,ha,r⟩:=pv.list;exact⟨a,xs,rfl,.inl (bY.of ha),fin xs r⟩
 |fix m=>cases h;obtain⟨a,xs,rfl,ha,r⟩:=pv.fix;exact⟨a,xs,rfl,.inl (hK▸ha.sq),fin xs r⟩
 |tup m=>cases h;obtain⟨a,xs,rfl,ha,r⟩:=pv.tup;exact⟨a,xs,rfl,.inr (hK▸ha.sq),fin xs r⟩
 |_=>cases h
theorem Fz{d:D}{l:List D}(hK:z.K=X.K)(h:bF d=some l):CallD X z (.type "tuple") [d] (.dat (.tup l)):=by
 refine⟨_,qJ,λg σ As M H vs Q s p k=>?_⟩
 obtain⟨v,rfl,pv⟩:=p.one;have fin:∀xs,aH z.K M H l xs->∀p,H p=none->Q (.ref p) (upd H p (.tup xs)):=λxs r p hp=>
  k _ _ As M (s.laid hp) (az.laid hp) (.tup (.inl ⟨s.fresh hp,.inl aI⟩) (r.stay (az.laid hp)))
 cases d with
 |lst m=>cases h;obtain⟨a,xs,rfl,ha,r⟩:=pv.list;exact⟨a,xs,rfl,.inl ⟨bY.of ha,fin xs r⟩⟩
 |fix m=>cases h;obtain⟨a,xs,rfl,ha,r⟩:=pv.fix;exact⟨a,xs,rfl,.inl ⟨hK▸ha.sq,fin xs r⟩⟩
 |tup m=>cases h;obtain⟨a,xs,rfl,ha,r⟩:=pv.tup;exact⟨a,xs,rfl,.inr ⟨hK▸ha.sq,k _ H As M s (az.refl _ _) (.tup ha r)⟩⟩
 |_=>cases h
theorem RC{i j:Int}(hc:X.calm=true):CallD X z (.builtin "max") [.int i,.int j] (.dat (.int (if j > i then j else i))):=by
 refine⟨_,Az hc,λg σ As M H vs Q s p k=>?_⟩
 obtain⟨v,w,rfl,p1,p2⟩:=p.two;exact⟨i,j,by rw[p1.int,p2.int],k _ H As M s (az.refl _ _) (.int _)⟩
theorem RD{i j:Int}(hc:X.calm=true):CallD X z (.builtin "min") [.int i,.int j] (.dat (.int (if j<i then j else i))):=by
 refine⟨_,Ba hc,λg σ As M H vs Q s p k=>?_⟩
 obtain⟨v,w,rfl,p1,p2⟩:=p.two;exact⟨i,j,by rw[p1.int,p2.int],k _ H As M s (az.refl _ _) (.int _)⟩
end
section
theorem pe(hc:X.calm=true):dO X (.builtin "all") (λxs H Q=>∃(p:Addr) (bs:List Bool),xs=[.ref p]/\bY X.K H p (bs.map V.bl)/\Q (.bl (bs.all id)) H):=by
 intro ah s σ H xs us Q I r h;obtain⟨p,bs,rfl,hp,q⟩:=h;obtain⟨u,rfl,rx⟩:=vals1 r;cases rx;obtain⟨aA,rv,pl,hz⟩:=I.list hp;have hlt:p<s⁻¹:=by obtain⟨_,e,_⟩:=pl.isList;exact eD e
 have aJ:aA.length=bs.length:=by rw[<- rv.length,dC]
 have up:∀b o,s.heap.get? b=some o->(s.heap.push { cls:=.type "list_iterator",data:=.fields #[.ref p,.int 0 0]}).get? b=some o:=λb o e=>b7 _ e
 refine call_all_walk (sR pl.isList ?_);refine⟨s⁻¹,_,_,_,_,_,λi=>bs.getD i true,rfl,CD (A:=X.A.in1) (show X.A.in1.handled=none from I.ok.hd hc) s⁻¹ p (hZ hlt) aA.toArray,⟨⟨_,eA _ rfl,rfl,rfl⟩,pl.isList.push _⟩,?_,λh' tk hk=>?_⟩
 .
  intro i v s' Q' E' hv hq;have hv':aA[i]?=some v:=by simpa using hv
  have hi:i<bs.length:=by rw[<- aJ];exact (b0.mp hv').1
  obtain⟨w,e1,e2⟩:=rv.get (i:=i) (x:=V.bl bs[i]) (by simp[hi])
  rw[hv']at e1;cases e1;cases e2;refine mM ?_;have:bs.getD i true=bs[i]:=by simp[List.getD,hi]
  rw[<- this];exact hq
 .
  have I1:L2.Inv X ah σ H { s with heap:=h',toks:=tk}:=I.kept λb o e=>hk b o (λhm=>by
   have:b=s⁻¹:=by simpa using hm
   exact absurd (eD e) (by rw[this];exact mB _)) (up b o e)
  refine⟨.bl (bs.all id),H,I1,?_,q⟩;have e:(List.range aA.toArray.size).all (λi=>bs.getD i true)=bs.all id:=by
   rw[b6,aJ];rw[t7];simp only[eJ,lS,id];constructor
   . intro h b hb;obtain⟨j,hj⟩:=B4 hb;have hj':=(b0.mp hj).1;have:=h j hj';simpa [List.getD,hj]using this
   . intro h i hi;have:=h bs[i] (BY hi);simpa [List.getD,hi]using this
  rw[e];rfl
noncomputable def qN:List D->Option (List Bool)
 | []=>some []
 |.bl b::l=>match qN l with |some bs=>some (b::bs) |none=>none
 |_::_=>none
theorem vn{K:Frag}{M:List Addr}{H:Hp}{l:List D}{xs:List V}{ns:List Bool}(q:aH K M H l xs)(e:qN l=some ns):xs=ns.map V.bl:=by
 induction l generalizing xs ns with
 |nil=>cases q;cases e;rfl
 |cons d l ih=>cases q with |cons r q=>cases d with
  |bl i=>
   have e:(match qN l with |some ns=>some (i::ns) |none=>none)=some ns:=e
   cases e2:qN l with
   |none=>rw[e2]at e;cases e
   |some ns=>rw[e2]at e;cases e;cases r;rw[List.map_cons,ih q e2]
  |_=>cases e
theorem RJ{l:List D}{bs:List Bool}(hc:X.calm=true)(h:qN l=some bs):CallD X z (.builtin "all") [.lst l] (.dat (.bl (bs.all id))):=by
 refine⟨_,pe hc,λg σ As M H vs Q s p k=>?_⟩
 obtain⟨v,rfl,pv⟩:=p.one;obtain⟨a,xs,rfl,ha,r⟩:=pv.list;have e:=vn r h;subst e;exact⟨a,bs,rfl,bY.of ha,k _ H As M s (az.refl _ _) (.bl _)⟩
end
noncomputable def xx:D->String
 |.non=> "NoneType" |.bl _=> "bool" |.int _=> "int" |.str _=> "str" |.tup _=> "tuple" |.lst _=> "list" |.fix _=> "list" |.emp=> "dict" |.DN _=> "" |.vg ..=> "dict"
def Zo:D->Value
 |.DN C=>.ref C
 |d=>.type (xx d)
theorem Bq{M:Model}{A:Around}{E:Value->Shared->Prop}{K:Frag}{x C:Addr}{ox:Obj}{nv:Value}{Q:Unit->Shared->Prop}{s:Shared}(X:K.In s.heap)(I:PySem.W.InstAt s.heap x ox C none)(hb:PySem.W.mroIn K C (.type "BaseException")=some true)(hq:Q () s) :
  wpAny M A (checkBuiltinCall "BaseException.__getattribute__" ⟨[.ref x,nv],[]⟩) Q E s:=by
 have kd:builtinKind "BaseException.__getattribute__"=some .slot:=by decide +kernel
 have sd:splitId "BaseException.__getattribute__"=some ("BaseException", "__getattribute__"):=by decide +kernel
 have ha:=F.args_bexc_ga (.ref x) nv;obtain⟨hv,ge,dr,tk,o'⟩:=s;have l0:=I.type (M:=M);have l1:=PySem.W.looks_mroIn (M:=M) X hb;simp only[checkBuiltinCall,kd,sd];unfold isInstance;refine a9 (a9 (l0.at (l1.at ?_)))
 repeat (any_goals (first |assumption |wp_step))
theorem FG{prog:Program}{w:World}{A:Around}{E:Value->Shared->Prop}{K:Frag}{x C:Addr}{ox:Obj}{name:Str}{g a:Value}{Q:Option Value->Shared->Prop}{s:Shared}(X:K.In s.heap)(I:PySem.W.InstAt s.heap x ox C none)
  (hga:PySem.W.findIn K (.ref C) "__getattribute__"=some (some (.builtin "BaseException.__getattribute__"))) (hk:PySem.W.findIn K (.ref C) "__getattr__"=some none) (hb:PySem.W.mroIn K C (.type "BaseException")=some true) (hf:PySem.W.findObj K C none name=some (.bind g a))
  (h:wpAny (model prog w) A.in1 (call g [a,.ref x,.ref C]) (λv s'=>wpAny (model prog w) A (handedOut v) (λv s''=>Q (some v) s'') (λ_ _=>False) s') (λ_ _=>False) { s with toks:=s.toks+1}) :
  wpAny (model prog w) A (getAttr? (.ref x) name) Q E s:=by
 obtain⟨hv,ge,dr,tk,o'⟩:=s;have l0:=I.type (M:=model prog w);have l1:=PySem.W.looks_findIn (M:=model prog w) X hga;have l2:=PySem.W.looks_findIn (M:=model prog w) X hk;have l3:=PySem.W.looks_find (M:=model prog w) X I hf;have f3:=F.excAttr_ValueError.ga.bind (.ref x);unfold getAttr? getAttrBy? getAttrBy;refine a9 (wpAny_mkText (a9 (wpAny_attempt (kA (a9 (l0.at (a9 (l1.at ?_))))))));show wpAny _ _ (getAttrByItsOwn _ _ _ _ _ _) _ _ _;unfold getAttrByItsOwn;refine a9 (l2.at (a9 (wpAny_attempt (kA ?_))));show wpAny _ _ (boundAndCalled _ _ _) _ _ _;unfold boundAndCalled;rw[f3];refine a9 (d6 (wpAny_call (codeAny_call_builtin F.excAttr_ValueError.ga.plain F.entry_bexc_ga (Bq X I hb ?_))));refine a9 (d6 (a9 (d6 (a9 (l0.at (a9 (l3.at ?_)))))));show wpAny _ _ (Builtin.ObjectAttr.bindTo _ _ _ _) _ _ _;show wpAny _ _ (holding [a] (call g [a,.ref x,.ref C]) >>= ret) _ _ _;refine a9 (kA (mE h (λv s' z=>d6 ?_) λ_ _ z=>z.elim))
 exact mE z (λv s'' hv=>d6 hv) (λ_ _ z=>z.elim)
theorem lJ{K:Frag}{C:Addr}(k:Xa K C):∃c d cd sl,K.lookup C=some ⟨c,d,.cls cd,sl⟩/\PySem.W.clsIn K C=some cd:=by
 obtain⟨cd,hc,_⟩:=PySem.W.any_some k.dct;have hc':=hc;unfold PySem.W.clsIn at hc;split at hc
 . rename_i c d cd' sl ho;cases hc;exact⟨c,d,cd,sl,ho,hc'⟩
 . cases hc
theorem FH{K:Frag}{x C:Addr}(k:Xa K C):PySem.W.KitX K (.ref x) (.ref C) (λh=>∃ox,PySem.W.InstAt h x ox C none) where
 ty:=λ_ _ _ ⟨_,I⟩=>I.type
 it:=λ_ _ X _=>by
  obtain⟨c,d,cd,sl,ho,_⟩:=lJ k;intro A' Q' E' s' kp q;unfold isType loadHead;refine a9 ?_;refine wpAny_loadPart (kp _ _ (X _ _ ho)) ?_;exact d6 q
 ne:=λh tp dd aA n sl X htp=>by
  obtain⟨c,d,cd,sl',ho,_⟩:=lJ k;cases q:(Value.ref C==Value.ref tp)with
  |false=>rfl
  |true=>have e:C=tp:=Value.ref.inj (beq_iff_eq.mp q);subst e;have y:=(X _ _ ho).symm.trans htp;cases y
 ca:=λ{prog w A E Q s} X ⟨ox,I⟩ h=>by
  obtain⟨_,_,cd,_,_,hc⟩:=lJ k;have hf:PySem.W.findObj K C none "__class__"=some (.bind (.builtin "getset_descriptor.__get__") (.builtin "object.__class__")):=by unfold PySem.W.findObj;rw[hc,Option.bind_some,k.cls,Option.bind_some];simp[k.spc,k.tks]
  refine FG X I k.gga k.gat k.bas hf (wpAny_call ?_);exact PySem.W.class_get (s:={ s with toks:=s.toks+1}) (ox:=ox) (od:=none) X I k.mro (PySem.W.handed_on rfl h)
section
theorem RK(I:L2.Inv X ah σ H s)(p:Pk X.K M H d v)(r:RelV v u)
  (e:PySem.W.kitOne X.K (Zo d) c=some b) (h:∀tk,Q (.bool b) { s with toks:=tk}):wpAny (model X.prog X.w) A (call (.builtin "isinstance") [u,c]) Q E s:=by
 cases d with
 |non=>have q:=p.non;subst q;cases r;exact o5 PySem.W.kitx_none I.uS True.intro e (λz=>nomatch z) h
 |bl y=>have q:=p.bl;subst q;cases r;exact o5 PySem.W.kitx_bool I.uS True.intro e (λz=>nomatch z) h
 |int i=>have q:=p.int;subst q;obtain⟨t,rfl⟩:=r;exact o5 PySem.W.kitx_int I.uS True.intro e (λz=>nomatch z) h
 |str y=>have q:=p.str;subst q;obtain⟨t,rfl⟩:=r;exact o5 PySem.W.kitx_str I.uS True.intro e (λz=>nomatch z) h
 |tup l=>obtain⟨a,xs,rfl,ha,_⟩:=p.tup;cases r;obtain⟨aA,_,⟨o,h1,h2,_⟩,_⟩:=I.tuple ha.sq;exact o5 PySem.W.kitx_tuple I.uS ⟨o,h1,h2⟩ e (λz=>nomatch z) h
 |lst l=>obtain⟨a,xs,rfl,ha,_⟩:=p.list;cases r;obtain⟨aA,_,pl,_⟩:=I.list (bY.of ha);obtain⟨o,h1,h2,_⟩:=pl.isList;exact o5 PySem.W.kitx_list I.uS ⟨o,h1,h2⟩ e (λz=>nomatch z) h
 |fix l=>obtain⟨a,xs,rfl,ha,_⟩:=p.fix;cases r;obtain⟨aA,_,pl,_⟩:=I.list ha.sq;obtain⟨o,h1,h2,_⟩:=pl.isList;exact o5 PySem.W.kitx_list I.uS ⟨o,h1,h2⟩ e (λz=>nomatch z) h
 |emp=>
  cases p with
  |of q=>
   cases q with
   |emp _ ha=>cases r;obtain⟨_,_,vs,_,o,es,ep,h1,h2,_⟩:=I.hok _ _ ha;exact o5 PySem.W.kitx_dict I.uS ⟨o,h1,h2.1⟩ e (λz=>nomatch z) h
 |DN C=>
  cases p with
  |of q=>
   cases q with
   |DN k _ ha=>cases r;obtain⟨⟨o,h1,h2,h3,h4⟩,_⟩:=I.hok _ _ ha;exact o5 (FH k) I.uS ⟨o,h1,h2,h3,by rw[h4];trivial⟩ e (λz=>nomatch z) h
 |vg ks ds=>
  cases p with
  |of q=>
   cases q with
   |vg _ ha _ _=>cases r;obtain⟨_,_,vs,_,o,es,ep,h1,h2,_⟩:=I.hok _ _ ha;exact o5 PySem.W.kitx_dict I.uS ⟨o,h1,h2.1⟩ e (λz=>nomatch z) h
theorem FJ:dO X (.builtin "isinstance") (λxs H Q=>∃x n M d b,xs=[x,.ty n]/\Pk X.K M H d x/\PySem.W.kitOne X.K (Zo d) (.type n)=some b/\Q (.bl b) H):=by intro ah s σ H xs us Q I r h;obtain⟨x,n,M,d,b,rfl,p,e,q⟩:=h;obtain⟨u,w',rfl,r1,r2⟩:=vals2 r;cases r2;exact RK I p r1 e λtk=>⟨.bl b,H,I.tok tk,rfl,q⟩
theorem RL(hK:z.K=X.K)(h:aB X z a g r1 g1)(hp:pk r1 g1=some d)(he:∀M H v,Pk X.K M H d v->PySem.W.kitOne X.K (Zo d) (.type n)=some b)
  (hg:Gl X "isinstance") (hm:X.mg "isinstance"=none) (hv:bootBuiltins "isinstance"=some (.builtin "isinstance")) (gT:Gl X T) (mT:X.mg T=none) (vT:bootBuiltins T=some (.type n)) (nT:T≠ "__name__") (dT:(T==("__debug__":Str))=false)
  (hs:starEach [a,.Name T pT] X.env=(false,eval a X.env)::starEach [.Name T pT] X.env):aB X z (.Call (.Name "isinstance" p) [a,.Name T pT] [] pos) g (.dat (.bl b)) g1:=by
 obtain⟨t,q,k⟩:=h;have pT':PE X (.Name T pT) (tC (.ty n)):=JH gT mT vT rfl nT dT;refine⟨_,u5 FJ hg hm hv (iX q (iX pT' oE) hs) ⋯ ⋯ hs,λσ As M H Q s kk=>k σ As M H _ s λv H' aG M' s' st R=>?_⟩
 have p:=hK▸s'.pk (az.refl _ _) R hp;exact⟨v,n,M',d,b,rfl,p,he _ _ _ p,kk _ H' aG M' s' st (.bl b)⟩
end
inductive Fl where
 |nx |rt (r:R) |bk |ct
def pg(z:Z)(M:List Addr)(H:Hp)(E:Ends)(g':G):Fl->Prop
 |.nx=>∀σ' aG M' H',S z g' σ' aG M' H'->az M H M' H'->E.nx σ' H'
 |.bk=>∀σ' aG M' H',S z g' σ' aG M' H'->az M H M' H'->E.bk σ' H'
 |.ct=>∀σ' aG M' H',S z g' σ' aG M' H'->az M H M' H'->E.ct σ' H'
 |.rt r=>∀v σ' aG M' H',S z g' σ' aG M' H'->az M H M' H'->fT z g' σ' aG M' H' r v->E.rt v H'
def g7(X:Cx)(z:Z)(st:Stmt)(g:G)(f:Fl)(g':G):Prop:=
 ∃t,PS X st t/\∀σ As M H E,S z g σ As M H->pg z M H E g' f->t E σ H
def fJ(X:Cx)(z:Z)(uP:List Stmt)(g:G)(f:Fl)(g':G):Prop:=
 ∃t,uL X uP t/\∀σ As M H E,S z g σ As M H->pg z M H E g' f->t E σ H
section
variable{st:Stmt}
theorem pg.trans(st:az M H M1 H1)(h:pg z M H E g' f):pg z M1 H1 E g' f:=by
 cases f with
 |nx=>exact λσ' aG M' H' s' st'=>h σ' aG M' H' s' (st.trans st')
 |bk=>exact λσ' aG M' H' s' st'=>h σ' aG M' H' s' (st.trans st')
 |ct=>exact λσ' aG M' H' s' st'=>h σ' aG M' H' s' (st.trans st')
 |rt r=>exact λv σ' aG M' H' s' st' R=>h v σ' aG M' H' s' (st.trans st') R
theorem RM:fJ X z [] g .nx g:=⟨_,JK,λσ As M H E s k=>k σ As M H s (az.refl _ _)⟩
theorem KQ(h1:g7 X z st g .nx g1)(h2:fJ X z uP g1 f g2):fJ X z (st::uP) g f g2:=by obtain⟨t1,q1,k1⟩:=h1;obtain⟨t2,q2,k2⟩:=h2;exact⟨_,gn q1 q2,λσ As M H E s k=>k1 σ As M H _ s λσ' aG M' H' s' st'=>k2 σ' aG M' H' E s' (k.trans st')⟩
theorem RN(h1:g7 X z st g (.rt r) g1):fJ X z (st::uP) g (.rt r) g1:=by obtain⟨t1,q1,k1⟩:=h1;exact⟨_,gn q1 fz,λσ As M H E s k=>k1 σ As M H _ s k⟩
theorem RP(h1:g7 X z st g .bk g1):fJ X z (st::uP) g .bk g1:=by obtain⟨t1,q1,k1⟩:=h1;exact⟨_,gn q1 fz,λσ As M H E s k=>k1 σ As M H _ s k⟩
theorem RQ(h1:g7 X z st g .ct g1):fJ X z (st::uP) g .ct g1:=by obtain⟨t1,q1,k1⟩:=h1;exact⟨_,gn q1 fz,λσ As M H E s k=>k1 σ As M H _ s k⟩
theorem RT(h:aB X z e g r g1):g7 X z (.Return (some e) pos) g (.rt r) g1:=by obtain⟨t,q,k⟩:=h;exact⟨_,Eg q,λσ As M H E s kk=>k σ As M H _ s λv H' aG M' s' st R=>kk v σ aG M' H' s' st R⟩
theorem KR(h:aB X z e g r g1)(hs:swapsWith e none pos.line X.env=pure false):g7 X z (.Expr e pos) g .nx g1:=by obtain⟨t,q,k⟩:=h;exact⟨_,zg q hs,λσ As M H E s kk=>k σ As M H _ s λv H' aG M' s' st R=>kk σ aG M' H' s' st⟩
theorem OJ(h:dM X z c g v g1)(h2:fJ X z (if v then a else b) g1 f g2):g7 X z (.If c a b pos) g f g2:=by
 obtain⟨t,q,k⟩:=h;obtain⟨t2,q2,k2⟩:=h2;cases v with
 |true=>exact⟨_,Oo q q2 fz,λσ As M H E s kk=>k σ As M H _ s λH' aG M' s' st=>lE (k2 σ aG M' H' E s' (kk.trans st))⟩
 |false=>exact⟨_,Oo q fz q2,λσ As M H E s kk=>k σ As M H _ s λH' aG M' s' st=>qK (k2 σ aG M' H' E s' (kk.trans st))⟩
theorem KS(hN:X.N.Nodup)(hi:X.N[i]?=some x)(hx:Loc X.env.scope x)(h:aB X z e g (.dat d) g1)(hs:swapsWith e (some (.Name x pos')) pos.line X.env=pure false)(hf:X.fn x=true\/X.env.scope.names.lookup x=some .local)(hb:i∉z.bor) :
  g7 X z (.Assign [.Name x pos'] e pos) g .nx (g1.set i (.dat d)):=by
 obtain⟨t,q,k⟩:=h;refine⟨_,Eh hN hi hx q hs hf,λσ As M H E s kk=>k σ As M H _ s λv H' aG M' s' st R=>?_⟩
 obtain⟨bK,s2⟩:=s'.lH (i:=i) hb R;exact kk _ bK M' H' s2 st
theorem KY(hN:X.N.Nodup)(hi:X.N[i]?=some x)(hx:Loc X.env.scope x)(h:aB X z e g (.new l) g1)(hl:i<g1.length)(hs:swapsWith e (some (.Name x pos')) pos.line X.env=pure false)(hf:X.fn x=true\/X.env.scope.names.lookup x=some .local)(hb:i∉z.bor) :
  g7 X z (.Assign [.Name x pos'] e pos) g .nx (g1.set i (.own l)):=by
 obtain⟨t,q,k⟩:=h;refine⟨_,Eh hN hi hx q hs hf,λσ As M H E s kk=>k σ As M H _ s λv H' aG M' s' st R=>?_⟩
 obtain⟨a,xs,rfl,hm,hA,h0,ha,rr⟩:=R;obtain⟨bK,s2⟩:=s'.oU hb hl hm hA h0 ha rr;exact kk _ bK M' H' s2 st
end
def tAny(X:Cx)(uP:List Stmt):TS:=λE σ H=>∃t,uL X uP t/\t E σ H
theorem zy{X:Cx}{uP:List Stmt}:uL X uP (tAny X uP):=λah s σ H E I h=>let ⟨t,q,k⟩:=h;q ah s σ H E I k
section
theorem drop_cons{α:Type}{l:List α}{n:Nat}{a:α}(h:l[n]?=some a):l.drop n=a::l.drop (n+1):=by obtain⟨h1,h2⟩:=b0.mp h;rw[List.drop_eq_getElem_cons h1,h2]
end
noncomputable def bU(lo:Int)(n:Nat):List D:=(List.range n).map λ(k:Nat)=>D.int (lo+(k:Int))
section
theorem FN{lo:Int}{n k:Nat}(h:k<n):(bU lo n)[k]?=some (.int (lo+(k:Int))):=by unfold bU;rw[nE,Cc h];rfl
theorem vo{lo:Int}{n:Nat}:(bU lo n).length=n:=by unfold bU;simp
theorem Br(h:dF X z [a] g [.dat (.int j)] g1)(hg:Gl X "range")(hm:X.mg "range"=none)(hs:starEach [a] X.env=[(false,eval a X.env)])(h1 : -(2 ^ 62)<=j)(h2:j<2 ^ 62) :
  ∃wi,PI X tg (.Call (.Name "range" p) [a] [] rp) wi/\∀σ As M H (Q:It->Hp->Prop),S z g σ As M H->(∀H' aG M',S z g1 σ aG M' H'->az M H M' H'->Q (Qn 0 j.toNat) H')->wi σ H Q:=by
 obtain⟨t,q,k⟩:=h;refine⟨_,rq hg hm q hs,λσ As M H Q s kk=>k σ As M H _ s λvs H' aG M' s' st R=>?_⟩
 cases R with
 |dat r R=>cases R;cases r;exact⟨j,rfl,h1,h2,kk H' aG M' s' st⟩
theorem Bs(h:dF X z [a,b] g [.dat (.int c),.dat (.int j)] g1)(hg:Gl X "range")(hm:X.mg "range"=none)(hs:starEach [a,b] X.env=[(false,eval a X.env),(false,eval b X.env)])(hs2:starEach [b] X.env=[(false,eval b X.env)])
  (h1 : -(2 ^ 62)<=c/\c<2 ^ 62/\-(2 ^ 62)<=j/\j<2 ^ 62) {tg:Expr} :
  ∃wi,PI X tg (.Call (.Name "range" p) [a,b] [] rp) wi/\∀σ As M H (Q:It->Hp->Prop),S z g σ As M H->(∀H' aG M',S z g1 σ aG M' H'->az M H M' H'->Q (Qn c (j - c).toNat) H')->wi σ H Q:=by
 obtain⟨t,q,k⟩:=h;refine⟨_,Ax hg hm q hs hs2,λσ As M H Q s kk=>k σ As M H _ s λvs H' aG M' s' st R=>?_⟩
 cases R with
 |dat r R=>cases R with |dat r2 R=>cases R;cases r;cases r2;exact⟨c,j,rfl,h1,kk H' aG M' s' st⟩
end
section
theorem Bt(hN:X.N[i]?=some x)(hv:mQ X.env.scope x)(hd:(x==("__debug__":Str))=false)(eS:(x==("__classdict__":Str))=false)(hg:g[i]?=some (.own l0))(h:dF X z [e] g [.dat d] g1)(uM:g1[i]?=some (.own l))(hl:l.length<16777216)
  (hbase:attributeBase (.Name x pn) "append" X.env (eval (.Name x pn) X.env)=eval (.Name x pn) X.env)
  (hfew:((backTo bQ (starEach [e] X.env)).all (λx=>!x.1)&&(backToKw bQ (keywordEach [] X.env)).all (λx=>x.1.isSome)
   && decide ([e].length+([]:List Keyword).length+(if ([]:List Keyword).isEmpty then 0 else 1)<30))=true)
  (hline:(eo.endLine==bQ.line)=true) (hs:starEach [e] X.env=(false,eval e X.env)::starEach [] X.env):aB X z (.Call (.Attribute (.Name x pn) "append" eo) [e] [] bQ) g (.dat .non) (g1.set i (.own (l++[d]))):=by
 obtain⟨t,q,k⟩:=h;refine⟨_,zq y7 PySem.F.slot_list_append PySem.F.type_list_append lD (dH hN hv hd eS) q hbase hfew hline hs rfl,λσ As M H Q s kk=>?_⟩
 obtain⟨a,xs,e1,e2,e3,e4⟩:=s.sl.at hg;refine⟨.ref a,e1,.inl ⟨rfl,xs,bY.of e3⟩,k σ As M H _ s λvs H' aG M' s' st R=>?_⟩
 obtain⟨b,ys,f1,f2,f3,f4⟩:=s'.sl.at uM;rw[e1]at f1;injection f1 with f1;injection f1 with f1;injection f1 with f1;subst f1;cases R with
 |dat r R=>
  cases R;refine⟨a,ys,_,rfl,rfl,f3,by rw[<- f4.length,mI];exact hl,?_⟩
  obtain⟨s2,aN⟩:=s'.write uM e1 (f4.append (.cons r .nil));exact kk _ _ aG M' s2 (st.trans aN) .non
end
section
theorem KZ(hN:X.N[i]?=some x)(hv:mQ X.env.scope x)(hd:(x==("__debug__":Str))=false)(eS:(x==("__classdict__":Str))=false)(h:aB X z e g (.dat d) g1)(uM:g1[i]?=some (.own l0))(h2:aB X z ix g1 (.dat (.int k)) g2)(Xp:g2[i]?=some (.own l))(hj:nR l.length k=some j)
  (ha:∀v,assign (.Subscript (.Name x pn) ix cg) X.env v=(do
   let ov <- holding [v] (eval (.Name x pn) X.env)
   let iv <- holding [v,ov] (eval ix X.env)
   standAt cg
   holding [v,ov,iv] (setItem ov iv v)
   release [v,ov,iv] []))
  (hs:swapsWithSole [.Subscript (.Name x pn) ix cg] e pos.line X.env=pure false) (hw:swappedStores [.Subscript (.Name x pn) ix cg] e X.env=pure none)
  (h1:(assignEach [.Subscript (.Name x pn) ix cg] X.env).map (·.2)=[assign (.Subscript (.Name x pn) ix cg) X.env]) :
  g7 X z (.Assign [.Subscript (.Name x pn) ix cg] e pos) g .nx (g2.set i (.own (l.set j d))):=by
 obtain⟨t,q,kk⟩:=h;obtain⟨t2,q2,k2⟩:=h2;refine⟨_,xH q (xG (dH hN hv hd eS) q2 set_list ha) hs hw h1,λσ As M H E s kE=>kk σ As M H _ s λv H1 bf M1 s1 eu R1=>?_⟩
 obtain⟨a,xs,e1,e2,e3,e4⟩:=s1.sl.at uM;refine⟨.ref a,e1,k2 σ bf M1 H1 _ s1 λw H2 bK M2 s2 aN R2=>?_⟩
 obtain⟨b,ys,f1,f2,f3,f4⟩:=s2.sl.at Xp;rw[e1]at f1;injection f1 with f1;injection f1 with f1;injection f1 with f1;subst f1;have R2':Rep z.K M2 H2 (.int k) w:=R2;cases R2';refine⟨a,ys,k,j,rfl,rfl,f3,by rw[<- f4.length];exact hj,?_⟩
 obtain⟨s3,eX⟩:=s2.write Xp e1 (aH.set (Rep.stay aN R1) j f4);exact kE σ bK M2 _ s3 (eu.trans (aN.trans eX))
theorem aH.eraseIdx{K:Frag}{M:List Addr}{H:Hp}:∀{ds:List D}{vs:List V} (n:Nat),aH K M H ds vs->aH K M H (ds.eraseIdx n) (vs.eraseIdx n)
 |_,_,_,.nil=>.nil
 |_,_,0,.cons _ t=>t
 |_,_,n+1,.cons r t=>.cons r (aH.eraseIdx n t)
theorem FP(hN:X.N[i]?=some x)(hv:mQ X.env.scope x)(hd:(x==("__debug__":Str))=false)(eS:(x==("__classdict__":Str))=false)(hg:g[i]?=some (.own l0))(h:dF X z [e] g [.dat (.int k)] g1)(uM:g1[i]?=some (.own l))(hk:nR l.length k=some j)(hy:l[j]?=some d)(hl:l.length<16777216)
  (hbase:attributeBase (.Name x pn) "pop" X.env (eval (.Name x pn) X.env)=eval (.Name x pn) X.env)
  (hfew:((backTo bQ (starEach [e] X.env)).all (λx=>!x.1)&&(backToKw bQ (keywordEach [] X.env)).all (λx=>x.1.isSome)
   && decide ([e].length+([]:List Keyword).length+(if ([]:List Keyword).isEmpty then 0 else 1)<30))=true)
  (hline:(eo.endLine==bQ.line)=true) (hs:starEach [e] X.env=(false,eval e X.env)::starEach [] X.env):aB X z (.Call (.Attribute (.Name x pn) "pop" eo) [e] [] bQ) g (.dat d) (g1.set i (.own (l.eraseIdx j))):=by
 obtain⟨t,q,k0⟩:=h;refine⟨_,zq y7 PySem.F.slot_list_pop PySem.F.type_list_pop Eu (dH hN hv hd eS) q hbase hfew hline hs rfl,λσ As M H Q s kk=>?_⟩
 obtain⟨a,xs,e1,e2,e3,e4⟩:=s.sl.at hg;refine⟨.ref a,e1,.inl ⟨rfl,xs,bY.of e3⟩,k0 σ As M H _ s λvs H' aG M' s' st R=>?_⟩
 obtain⟨b,ys,f1,f2,f3,f4⟩:=s'.sl.at uM;rw[e1]at f1;injection f1 with f1;injection f1 with f1;injection f1 with f1;subst f1;cases R with
 |dat r R=>
  cases R;cases r;obtain⟨h1,h2,h3,h4⟩:=sW hk;obtain⟨v,g1',RV⟩:=f4.get hy;obtain⟨s2,aN⟩:=s'.write uM e1 (aH.eraseIdx j f4);refine⟨a,ys,k,j,v,rfl,rfl,f3,by lia,by lia,by rw[<- f4.length];exact h1,g1',?_⟩
  exact kk _ _ aG M' s2 (st.trans aN) (RV.stay aN)
end
noncomputable def eG:List R->G->Option G
 | [],_=>some []
 |.dat d::rs,g=>match eG rs g with |some gs=>some (.dat d::gs) |none=>none
 |.var i::rs,g=>match g[i]? with
  |some (.own l)=>match eG rs g with |some gs=>some (.own l::gs) |none=>none
  |_=>none
 |.new _::_,_=>none
noncomputable def vars:Nat->List R->List (Nat×Nat)
 |_,[]=>[]
 |j,.var i::rs=>(j,i)::vars (j+1) rs
 |j,.dat _::rs=>vars (j+1) rs
 |j,.new _::rs=>vars (j+1) rs
noncomputable def back:List (Nat×Nat)->G->G->Option G
 | [],_,g=>some g
 | (j,i)::ps,gc,g=>match gc[j]? with
  |some (.own l)=>back ps gc (g.set i (.own l))
  |_=>none
noncomputable def gR(bor:List Nat)(g':G):R->Option R
 |.dat d=>some (.dat d)
 |.new l=>some (.new l)
 |.var j=>if j∈bor then none else match g'[j]? with |some (.own l)=>some (.new l) |_=>none
noncomputable def adr(σ:Sg)(i:Nat):Addr:=match σ[i]? with |some (some (.ref a))=>a |_=>0
theorem jH(h:σ[i]?=some (some (.ref a))):adr σ i=a:=by unfold adr;rw[h]
def cS(σ:Sg)(ps:List (Nat×Nat)):List (Nat×Addr):=ps.map λp=>(p.1,adr σ p.2)
noncomputable def fZ(n:Nat)(gs:G):G:=gs++List.replicate (n - gs.length) .no
theorem Slots.append{K:Frag}{M:List Addr}{H:Hp}{g1 g2:G}{σ1 σ2:Sg}{A1 A2:List Addr}(p:Slots K M H g1 σ1 A1)(q:Slots K M H g2 σ2 A2):Slots K M H (g1++g2) (σ1++σ2) (A1++A2):=by
 induction p with
 |nil=>exact q
 |no p ih=>exact .no ih
 |dat r p ih=>exact .dat r ih
 |own e r p ih=>exact .own e r ih
theorem Slots.Zq{K:Frag}{M:List Addr}{H:Hp}:∀(n:Nat),Slots K M H (List.replicate n .no) (List.replicate n none) []
 | 0=>.nil
 |n+1=>by rw[mN,mN];exact .no (Slots.Zq n)
section
theorem Slots.zz{K:Frag}{g:G}{σ:Sg}{As:List Addr}{i j:Nat}{a:Addr}{l l':List D}(q:Slots K M H g σ As)(nd:As.Nodup)(e1:g[i]?=some (.own l))(e2:g[j]?=some (.own l'))(e3:σ[i]?=some (some (.ref a)))(e4:σ[j]?=some (some (.ref a))):i=j:=by
 induction q generalizing i j with
 |nil=>exact nomatch (show none=some (Slot.own l)from e1)
 |no q ih=>cases i with
  |zero=>exact nomatch (show some Slot.no=some (Slot.own l)from e1)
  |succ i=>cases j with
   |zero=>exact nomatch (show some Slot.no=some (Slot.own l')from e2)
   |succ j=>exact congrArg (· + 1) (ih nd e1 e2 e3 e4)
 |dat r q ih=>cases i with
  |zero=>exact nomatch (show some (Slot.dat _)=some (Slot.own l)from e1)
  |succ i=>cases j with
   |zero=>exact nomatch (show some (Slot.dat _)=some (Slot.own l')from e2)
   |succ j=>exact congrArg (· + 1) (ih nd e1 e2 e3 e4)
 |@own g σ As b xs ds h r q ih=>
  have no:∀{i:Nat}{l:List D},g[i]?=some (.own l)->σ[i]?=some (some (.ref a))->b=a->False:=λ{i l} e1 e3 e=>by
   obtain⟨c,xs,h1,h2,_⟩:=q.at e1;cases (show some (some (V.ref c))=some (some (V.ref a))from h1.symm.trans e3)
   exact (fN.mp nd).1 (e▸h2)
  cases i with
  |zero=>cases j with
   |zero=>rfl
   |succ j=>cases (show some (some (V.ref b))=some (some (V.ref a))from e3);exact (no e2 e4 rfl).elim
  |succ i=>cases j with
   |zero=>cases (show some (some (V.ref b))=some (some (V.ref a))from e4);exact (no e1 e3 rfl).elim
   |succ j=>exact congrArg (· + 1) (ih (fN.mp nd).2 e1 e2 e3 e4)
theorem pq(s:S z g σ As M H)(j:Nat)(q:jG z σ M H rs vs)(e:eG rs g=some gs) :
  gs.length=vs.length/\Slots z.K M H gs (vs.map some) ((cS σ (vars j rs)).map (·.2))/\
  (∀p∈cS σ (vars j rs),∃n l,p.1=j+n/\gs[n]?=some (.own l)/\vs[n]?=some (.ref p.2))/\
  (∀n l a,gs[n]?=some (.own l)->vs[n]?=some (.ref a)->(j+n,a)∈cS σ (vars j rs))/\
  (∀p∈vars j rs,∃l a,g[p.2]?=some (.own l)/\σ[p.2]?=some (some (.ref a))/\a∈As):=by
 induction q generalizing gs j with
 |nil=>cases e;exact⟨rfl,.nil,(λp hp=>nomatch hp),(λn l a h=>by simp at h),(λp hp=>nomatch hp)⟩
 |@dat d v rs vs r q ih=>
  unfold eG at e;cases e2:eG rs g with
  |none=>rw[e2]at e;cases e
  |some gs=>
   rw[e2]at e;cases e;obtain⟨h1,h2,h3,h4,h5⟩:=ih (j+1) e2;refine⟨by simp[h1],.dat r h2,λp hp=>?_,λn l a e1 e3=>?_,h5⟩
   . obtain⟨n,l,q1,q2,q3⟩:=h3 p hp;exact⟨n+1,l,by lia,by simpa using q2,by simpa using q3⟩
   .
    cases n with
    |zero=>simp at e1
    |succ n=>
     have:=h4 n l a (by simpa using e1) (by simpa using e3)
     rw[show j+(n+1)=j+1+n by lia]
     exact this
 |@var i v rs vs r q ih=>
  unfold eG at e;split at e
  .
   rename_i l hg;cases e2:eG rs g with
   |none=>rw[e2]at e;cases e
   |some gs=>
    rw[e2]at e;cases e;obtain⟨h1,h2,h3,h4,h5⟩:=ih (j+1) e2;obtain⟨a,xs,f1,f2,f3,f4⟩:=s.sl.at hg;have ea:adr σ i=a:=jH f1;rw[r]at f1;injection f1 with f1;injection f1 with f1;subst f1;have el:cS σ (vars j (.var i::rs))=(j,a)::cS σ (vars (j+1) rs):=by show (j,adr σ i)::cS σ (vars (j+1) rs)=_;rw[ea]
    rw[el];refine⟨by simp[h1],.own f3 f4 h2,λp hp=>?_,λn l' b e1 e3=>?_,λp hp=>?_⟩
    .
     rcases dS.mp hp with rfl |hp
     . exact⟨0,l,rfl,rfl,rfl⟩
     . obtain⟨n,l,q1,q2,q3⟩:=h3 p hp;exact⟨n+1,l,by lia,by simpa using q2,by simpa using q3⟩
    .
     cases n with
     |zero=>
      have e4:a=b:=by simpa using e3
      subst e4;exact bP
     |succ n=>
      have:=h4 n l' b (by simpa using e1) (by simpa using e3)
      rw[show j+(n+1)=j+1+n by lia]
      exact aS _ this
    .
     rcases dS.mp (show p∈(j,i)::vars (j+1) rs from hp)with rfl |hp
     . exact⟨l,a,hg,r,f2⟩
     . exact h5 p hp
  . cases e
theorem rH{α β:Type}{f:α->β}:∀{l:List α},l.Nodup->(∀a∈l,∀b∈l,f a=f b->a=b)->(l.map f).Nodup
 | [],_,_=>vS
 |x::l,nd,h=>by
  rw[List.map_cons];refine fN.mpr ⟨λhm=>?_,rH (fN.mp nd).2 λa ha b hb=>h a (aS _ ha) b (aS _ hb)⟩
  obtain⟨y,hy,e⟩:=fA.mp hm;have:=h y (aS _ hy) x bP e;exact (fN.mp nd).1 (this▸hy)
def vp(z:Z)(σ:Sg)(M:List Addr)(H:Hp)(rs:List R):Z:=⟨z.K,H,M,cS σ (vars 0 rs),z.T⟩
theorem rJ:(vp z σ M H rs).bor=(vars 0 rs).map (·.1):=by show (cS σ (vars 0 rs)).map (·.1)=_;unfold cS;rw[List.map_map];rfl
theorem S.enter(s:S z g σ As M H){rs:List R}{vs:List V}{gs:G}{N:List Str}(r:jG z σ M H rs vs)(e:eG rs g=some gs)(nd:((vars 0 rs).map (·.2)).Nodup) :
  S (vp z σ M H rs) (fZ N.length gs) (start N vs) ((cS σ (vars 0 rs)).map (·.2)) M H:=by
 obtain⟨h1,h2,h3,h4,h5⟩:=pq s 0 r e;have eB:(cS σ (vars 0 rs)).map (·.2)=((vars 0 rs).map (·.2)).map (adr σ):=by unfold cS;rw[List.map_map,List.map_map];rfl
 have mem:∀b∈(cS σ (vars 0 rs)).map (·.2),b∈As:=λb hb=>by
  rw[eB]at hb;obtain⟨i,hi,e⟩:=fA.mp hb;obtain⟨p,hp,e'⟩:=fA.mp hi;obtain⟨l,a,q1,q2,q3⟩:=h5 p hp;subst e';rw[jH q2]at e;subst e;exact q3
 have pre:∀{n:Nat}{o:Slot},gs[n]?=some o->(fZ N.length gs)[n]?=some o:=λ{n o} q=>by
  unfold fZ;rw[dA (b0.mp q).1];exact q
 have ownB:∀(n:Nat) (l:List D),(fZ N.length gs)[n]?=some (.own l)->gs[n]?=some (.own l):=λn l q=>by
  unfold fZ at q;rcases sB n gs.length with h |h
  . rw[dA h]at q;exact q
  . rw[eC h]at q;have:=i5 q;rw[t9]at this;exact absurd this.2 ⋯
 have st:∀{n:Nat}{v:V},vs[n]?=some v->(start N vs)[n]?=some (some v):=λ{n v} q=>by
  unfold L2.start;rw[dA (by rw[dC];exact (b0.mp q).1),nE,q]
  rfl
 have st':∀{n:Nat}{v:V},(start N vs)[n]?=some (some v)->vs[n]?=some v:=λ{n v} q=>by
  unfold L2.start at q;rcases sB n vs.length with h |h
  .
   rw[dA (by rw[dC];exact h),nE]at q
   cases e:vs[n]? with
   |none=>rw[e]at q;cases q
   |some w=>rw[e]at q;injection q with q
  .
   rw[eC (by rw[dC];exact h)]at q
   have:=i5 q;rw[t9]at this;exact absurd this.2 ⋯
 refine⟨?_,?_,λa ha=>s.sub a (mem a ha),λn a l q1 q2=>.inl ?_,s.live,λb o e _ _=>e,λm hm=>hm,λm hm=>?_,λb hb=>s.sub b (mem b hb),λp hp=>?_,s.tab,λp hp=>s.lG _ (s.tm p hp),s.tt⟩
 .
  have q:=h2.append (Slots.Zq (K:=z.K) (M:=M) (H:=H) (N.length - gs.length));rw[o4]at q;have e':start N vs=vs.map some++List.replicate (N.length - gs.length) none:=by unfold L2.start;rw[h1]
  rw[e'];exact q
 .
  rw[eB];refine rH nd λi hi j hj e=>?_
  obtain⟨p,hp,rfl⟩:=fA.mp hi;obtain⟨p',tN,rfl⟩:=fA.mp hj;obtain⟨l,a,q1,q2,q3⟩:=h5 p hp;obtain⟨l',a',DK,FQ,RW⟩:=h5 p' tN;rw[jH q2,jH FQ]at e;subst e;exact s.sl.zz s.nd q1 DK q2 FQ
 . have hm:=h4 n l a (ownB n l q1) (st' q2);rw[BQ]at hm;exact⟨tJ (f:=(·.1)) hm,tJ (f:=(·.2)) hm⟩
 . exact λe=>s.fresh e hm
 . obtain⟨n,l,q1,q2,q3⟩:=h3 p hp;rw[BQ]at q1;rw[q1];exact⟨st q3,l,pre q2⟩
theorem Slots.transfer{K:Frag}{M M2:List Addr}{H H':Hp}(st:az M H M2 H'){g g2:G}{σ:Sg}{As:List Addr}(q:Slots K M H g σ As)(hl:g2.length=g.length)
  (h1:∀(i:Nat) (l:List D) (a:Addr),g[i]?=some (.own l)->σ[i]?=some (some (.ref a))->∃l' xs',g2[i]?=some (.own l')/\H' a=some (.lst xs')/\aH K M2 H' l' xs')
  (h2:∀(i:Nat) (o:Slot),g[i]?=some o->(∀l,o≠.own l)->g2[i]?=some o):Slots K M2 H' g2 σ As:=by
 induction q generalizing g2 with
 |nil=>cases g2 with
  |nil=>exact .nil
  |cons a b=>cases hl
 |no q ih=>cases g2 with
  |nil=>cases hl
  |cons a b=>
   cases (show some a=some Slot.no from h2 0 .no rfl (λl z=>nomatch z))
   exact .no (ih (BO hl) (λi l a e1 e2=>h1 (i+1) l a e1 e2) λi o e1 e2=>h2 (i+1) o e1 e2)
 |@dat g σ As v d r q ih=>cases g2 with
  |nil=>cases hl
  |cons a b=>
   cases (show some a=some (Slot.dat d)from h2 0 (.dat d) rfl (λl z=>nomatch z))
   exact .dat (r.stay st) (ih (BO hl) (λi l a e1 e2=>h1 (i+1) l a e1 e2) λi o e1 e2=>h2 (i+1) o e1 e2)
 |@own g σ As a0 xs ds e0 r q ih=>cases g2 with
  |nil=>cases hl
  |cons a b=>
   obtain⟨l',xs',e1,e2,e3⟩:=h1 0 _ a0 rfl rfl;cases (show some a=some (Slot.own l')from e1)
   exact .own e2 e3 (ih (BO hl) (λi l a e1 e2=>h1 (i+1) l a e1 e2) λi o e1 e2=>h2 (i+1) o e1 e2)
theorem rK:∀{ps:List (Nat×Nat)}{g gO:G},back ps gc g=some gO->(ps.map (·.2)).Nodup->gO.length=g.length/\
  (∀i,i∉ps.map (·.2)->gO[i]?=g[i]?)/\∀p∈ps,p.2<g.length->∃l,gc[p.1]?=some (.own l)/\gO[p.2]?=some (.own l)
 | [],g,gO,e,_=>by cases e;exact⟨rfl,λ_ _=>rfl,λp hp=>nomatch hp⟩
 | (j,i)::ps,g,gO,e,nd=>by
  unfold back at e;split at e
  .
   rename_i l hg;obtain⟨h1,h2,h3⟩:=rK e (fN.mp nd).2;refine⟨by rw[h1,t6],λk hk=>?_,λp hp hlt=>?_⟩
   .
    have n1:k∉ps.map (·.2):=λz=>hk (aS _ z)
    have n2:i≠k:=λz=>hk (z▸bP)
    rw[h2 k n1,eR n2]
   .
    rcases dS.mp hp with rfl |hp
    . refine⟨l,hg,?_⟩;have hlt':i<g.length:=hlt;rw[h2 i (fN.mp nd).1,fR hlt']
    . exact h3 p hp (by rw[t6];exact hlt)
  . cases e
theorem S.leave(s:S z g σ As M H){rs:List R}{vs:List V}{gs gc gO:G}{σc:Sg}{Ac Mc:List Addr}{Hc:Hp}{r r':R}{v:V}(rw':jG z σ M H rs vs)(e:eG rs g=some gs)(nd:((vars 0 rs).map (·.2)).Nodup)
  (sc:S (vp z σ M H rs) gc σc Ac Mc Hc) (st:az M H Mc Hc) (q:fT (vp z σ M H rs) gc σc Ac Mc Hc r v) (hb:back (vars 0 rs) gc g=some gO) (hr:gR ((vars 0 rs).map (·.1)) gc r=some r') :
  ∃M2,S z gO σ As M2 Hc/\az M H M2 Hc/\fT z gO σ As M2 Hc r' v:=by
 obtain⟨h1,h2,h3,h4,h5⟩:=pq s 0 rw' e;obtain⟨b1,b2,b3⟩:=rK hb nd;have hM:∀m∈M,m∈Mc:=sc.lG;have core:∀M2:List Addr,(∀m∈M,m∈M2)->(∀m∈M2,m∈Mc)->az M H M2 Hc->S z gO σ As M2 Hc:=by
  intro M2 m1 m2 aN;refine⟨s.sl.transfer aN b1 (λi l a e1 e2=>?_) (λi o e1 e2=>?_),s.nd,λa ha=>m1 a (s.sub a ha),λi a l e1 e2=>?_,λm hm=>sc.live m (m2 m hm),λb o e1 e2 et=>?_,λm hm=>m1 m (s.lG m hm),s.m0,s.bm,λp hp=>⟨(s.jF p hp).1,?_⟩,sc.tab,s.tm,s.tt⟩
  .
   by_cases hi:i∈(vars 0 rs).map (·.2)
   .
    obtain⟨p,hp,rfl⟩:=fA.mp hi;obtain⟨l',q1,q2⟩:=b3 p hp (b0.mp e1).1;have hl:(p.1,adr σ p.2)∈cS σ (vars 0 rs):=tJ (f:=λp:Nat×Nat=>(p.1,adr σ p.2)) hp
    obtain⟨c1,c2⟩:=sc.jF _ hl;obtain⟨a',xs,d1,d2,d3,d4⟩:=sc.sl.at q1;rw[c1]at d1;injection d1 with d1;injection d1 with d1;injection d1 with d1;rw[jH e2]at d1;subst d1;exact⟨l',xs,q2,d3,aH.stay (az.less m2) d4⟩
   .
    obtain⟨a',xs,d1,d2,d3,d4⟩:=s.sl.at e1;rw[e2]at d1;injection d1 with d1;injection d1 with d1;injection d1 with d1;subst d1;refine⟨l,xs,by rw[b2 i hi];exact e1,sc.keep a _ d3 (λhB=>?_) (s.Xd d3),d4.stay aN⟩
    obtain⟨p,hp,ep⟩:=fA.mp (show a∈(cS σ (vars 0 rs)).map (·.2)from hB);obtain⟨p',tN,rfl⟩:=fA.mp hp;obtain⟨l2,a2,q1,q2,q3⟩:=h5 p' tN;have JF:adr σ p'.2=a:=ep;rw[jH q2]at JF;subst JF;have:=s.sl.zz s.nd e1 q1 e2 q2;exact hi (this▸tJ (f:=(·.2)) tN)
  .
   refine (b2 i λhi=>?_).trans e1
   obtain⟨p,hp,rfl⟩:=fA.mp hi;obtain⟨l2,a2,q1,q2,q3⟩:=h5 p hp;rw[e1]at q1;injection q1 with q1;exact e2 l2 q1
  .
   by_cases hi:i∈(vars 0 rs).map (·.2)
   . obtain⟨p,hp,rfl⟩:=fA.mp hi;obtain⟨l2,a2,q1,q2,q3⟩:=h5 p hp;exact s.own p.2 a l2 q1 e2
   . rw[b2 i hi]at e1;exact s.own i a l e1 e2
  .
   have e3:=s.keep b o e1 e2 et;refine sc.keep b o e3 (λhB=>?_) et
   obtain⟨p,hp,ep⟩:=fA.mp (show b∈(cS σ (vars 0 rs)).map (·.2)from hB);obtain⟨p',tN,rfl⟩:=fA.mp hp;obtain⟨l2,a2,q1,q2,q3⟩:=h5 p' tN;have JF:adr σ p'.2=b:=ep;rw[jH q2]at JF;subst JF;rcases s.own p'.2 a2 l2 q1 q2 with w |w
   . exact e2 w.2
   . rw[w]at e1;cases e1
  .
   by_cases hi:p.1∈(vars 0 rs).map (·.2)
   . obtain⟨p',tN,e'⟩:=fA.mp hi;have e'':p'.2=p.1:=e';obtain⟨l2,a2,q1,q2,q3⟩:=h5 p' tN;obtain⟨l',DK,FQ⟩:=b3 p' tN (b0.mp q1).1;exact⟨l',by rw[<- e''];exact FQ⟩
   . rw[b2 p.1 hi];exact (s.jF p hp).2
 have new:∀(a:Addr) (xs:List V) (l:List D),v=.ref a->a∈Mc->H a=none->Hc a=some (.lst xs)->aH z.K Mc Hc l xs->∃M2,S z gO σ As M2 Hc/\az M H M2 Hc/\fT z gO σ As M2 Hc (.new l) v:=by
  intro a xs l ev hm h0 hx rr;have m2:∀m∈a::M,m∈Mc:=λm hm'=>(dS.mp hm').elim (λe=>e▸hm) (hM m)
  have aN:az M H (a::M) Hc:=st.trans (az.less m2);refine⟨a::M,core _ (λm hm'=>aS _ hm') m2 aN,aN,a,xs,ev,bP,λhA=>?_,s.cI h0,hx,rr.stay (az.less m2)⟩
  exact s.fresh h0 (s.sub a hA)
 cases r with
 |dat d=>cases hr;have aN:az M H M Hc:=st.trans (az.less hM);exact⟨M,core M (λm h=>h) hM aN,aN,Rep.stay (az.less hM) q⟩
 |new l=>cases hr;obtain⟨a,xs,rfl,c1,c2,c3,c4,c5⟩:=q;exact new a xs l rfl c1 c3 c4 c5
 |var j=>
  obtain⟨l,q1,q2⟩:=q;have hr:(if j∈(vars 0 rs).map (·.1)then none else match gc[j]? with |some (.own l)=>some (R.new l) |_=>none)=some r':=hr
  split at hr
  . cases hr
  .
   rename_i hj;rw[q1]at hr;cases hr;obtain⟨a,xs,d1,d2,d3,d4⟩:=sc.sl.at q1;rw[q2]at d1;injection d1 with d1;injection d1 with d1;subst d1;refine new a xs l rfl (sc.sub a d2) ?_ d3 d4;rcases sc.own j a l q1 q2 with w |w
   . have w':=w.1;rw[rJ]at w';exact absurd w' hj
   . exact w
end
theorem jG.length(q:jG z σ M H rs vs):vs.length=rs.length:=by
 induction q with
 |nil=>rfl
 |dat r q ih=>exact congrArg (· + 1) ih
 |var r q ih=>exact congrArg (· + 1) ih
def RX(K:Frag)(N:List Str)(np:Nat)(run:List Nat->G->R->G->Prop):Sp:=λvs H Q _=>
 vs.length=np/\∃(z:Z) (g g':G) (As M:List Addr) (r:R),z.K=K/\S z g (start N vs) As M H/\run z.bor g r g'/\
  ∀v σ' aG M' H',S z g' σ' aG M' H'->az M H M' H'->fT z g' σ' aG M' H' r v->Q v H'
section
variable{run:List Nat->G->R->G->Prop}
theorem zA(F:qF X.prog X.w X.K X.mg X.base Jp k f fd ps (RX X.K N ps.length run))(hK:z.K=X.K)(hr:fX k X.A)(hg:Gl X x)(hm:X.mg x=some (.ref f))(hk:PySem.W.keepIn X.K (.ref f)=true)(hb:Binds X.K fd ps [])
  (ha:dF X z (e::es) g rs g1) (aJ:rs.length=ps.length) (hl:eG rs g1=some gs) (nd:((vars 0 rs).map (·.2)).Nodup) (hrun:run ((vars 0 rs).map (·.1)) (fZ N.length gs) r gc) (Xq:back (vars 0 rs) gc g1=some gO) (ho:gR ((vars 0 rs).map (·.1)) gc r=some r')
  (Al:(x==("__debug__":Str))=false) (he:starEach (e::es) X.env=(false,eval e X.env)::starEach es X.env) (jw:(backTo pos (starEach es X.env)).any (·.1)=false) :
  aB X z (.Call (.Name x p) (e::es) [] pos) g r' gO:=by
 obtain⟨t,q,kk⟩:=ha;refine⟨_,J3 F hr hg hm hk hb .nil W2 q Al he jw,λσ As M H Q s kq=>kk σ As M H _ s λvs H1 bf M1 s1 eu R1=>?_⟩
 have hv:vs.length=rs.length:=R1.length;have ee:=s1.enter (N:=N) R1 hl nd;refine⟨by rw[o4,hv];exact aJ,vp z σ M1 H1 rs,fZ N.length gs,gc,_,M1,r,hK,by rw[o4];exact ee,by rw[rJ];exact hrun,λv σ' aG M' H' s' st' R'=>?_⟩
 obtain⟨M2,s2,aN,R2⟩:=s1.leave R1 hl nd s' st' R' Xq ho;exact kq v H' bf M2 s2 (eu.trans aN) R2
theorem O1{P:Program}{w:World}{K:Frag}{mg:Str->Option Value}{base:Heap}{qual:Str}{st:Stmt}(F:W3 K x qual st f fd)(Sc:fS N ps (aZ st))
  (h:∀(fW:Value) (A:Around) (outer:List Env) (s:Shared) (H:Hp) (E:XK),PySem.W.codeIn K fW qual=true->fX k (A.deeper (envOfC qual (aZ st) s⁻¹ f fW))->
   ∀(z:Z) (g:G) (r:R) (g':G),z.K=K->run z.bor g r g'->∃fl,fJ (uY Jp P w K mg base N qual (aZ st) f fW A outer s H E).Vk z (cC st) g fl g'/\(fl=.rt r\/(fl=.nx/\r=.dat .non))) :
  qF P w K mg base Jp (k+1) f fd ps (RX K N ps.length run):=by
 obtain⟨oc,od,kV,doc,pm,an,fW,ct,osl,rfl,lk,eS⟩:=F.ex;refine WR lk eS Sc (λvs H Q E q=>q.1) λA outer s H vs Q E hr ⟨_,z,g,g',As,M,r,hK,hs,hrun,hQ⟩=>?_
 obtain⟨fl,⟨t,q,kk⟩,hfl⟩:=h fW A outer s H E eS hr z g r g' hK hrun;refine⟨t,q.Vk,kk _ As M H _ hs ?_⟩;rcases hfl with rfl |⟨rfl,rfl⟩
 . exact λv σ' aG M' H' s' st' R'=>hQ v σ' aG M' H' s' st' R'
 . exact λσ' aG M' H' s' st'=>hQ .non σ' aG M' H' s' st' .non
end
inductive Tg where
 |nm (i:Nat) |tp (is:List Nat)
noncomputable def lK:List Nat->List D->G->G
 |i::is,d::ds,g=>lK is ds (g.set i (.dat d))
 | [],_,g=>g
 |_::_,[],g=>g
noncomputable def Tg.ix:Tg->List Nat
 |.nm i=>[i]
 |.tp is=>is
def Tg.set:Tg->D->G->Option G
 |.nm i,d,g=>some (g.set i (.dat d))
 |.tp is,.tup ds,g=>if ds.length=is.length then some (lK is ds g)else none
 |.tp is,.lst ds,g=>if ds.length=is.length then some (lK is ds g)else none
 |.tp _,_,_=>none
def uN(is:List Nat)(σ σ':Sg):Prop:=σ'.length=σ.length/\∀j,j∉is->σ'[j]?=σ[j]?
theorem uN.refl(is:List Nat)(σ:Sg):uN is σ σ:=⟨rfl,λ_ _=>rfl⟩
theorem uN.trans{is:List Nat}{σ σ1 σ2:Sg}(a:uN is σ σ1)(b:uN is σ1 σ2):uN is σ σ2:=⟨b.1.trans a.1,λj h=>(b.2 j h).trans (a.2 j h)⟩
theorem uN.mono(h:∀i∈is,i∈js)(a:uN is σ σ'):uN js σ σ':=⟨a.1,λj hj=>a.2 j λz=>hj (h j z)⟩
def gG(X:Cx)(z:Z)(tg:Expr)(T:Tg):Prop:=∃t,PG X tg t/\∀d g g',T.set d g=some g'->∀v σ As M H (Q:Sg->Hp->Prop),S z g σ As M H->Rep z.K M H d v->(∀σ' aG,S z g' σ' aG M H->uN T.ix σ σ'->Q σ' H)->t v σ H Q
structure pA(X:Cx)(x:Str)(i:Nat):Prop where
 nd:X.N.Nodup
 ix:X.N[i]?=some x
 lc:Loc X.env.scope x
 fn:X.fn x=true\/X.env.scope.names.lookup x=some .local
section
theorem Xr(h:pA X x i)(hb:i∉z.bor):gG X z (.Name x pos) (.nm i):=
 ⟨_,j5 h.nd h.ix h.lc h.fn,λd g g' e v σ As M H Q s r k=>by
  cases e;obtain⟨aG,s'⟩:=s.lH (i:=i) hb r;exact k _ aG s' ⟨by rw[t6],λj hj=>by rw[eR (λe=>hj (by rw[<- e];exact i6.mpr rfl))]⟩⟩
inductive kj(X:Cx):List Expr->List Nat->Prop
 |nil:kj X [] []
 |cons {x:Str}{p:Pos}{i:Nat}{es:List Expr}{is:List Nat}:pA X x i->kj X es is->kj X (.Name x p::es) (i::is)
theorem kj.plain(h:kj X es is):(assignEach es X.env).length=is.length/\(assignEach es X.env).findIdx? (·.1)=none:=by
 induction h with
 |nil=>exact⟨rfl,rfl⟩
 |cons _ _ ih=>
  refine⟨?_,?_⟩
  . show (assignEach _ X.env).length+1=_;rw[ih.1];rfl
  . show List.findIdx? _ ((false,assign _ X.env)::assignEach _ X.env)=none;rw[List.findIdx?_cons,ih.2];rfl
theorem kj.pgs(h:kj X es is)(hb:∀i∈is,i∉z.bor):∃t,Vl X es t/\∀ds vs g σ As M H (Q:Sg->Hp->Prop),ds.length=is.length->S z g σ As M H->aH z.K M H ds vs->(∀σ' aG,S z (lK is ds g) σ' aG M H->uN is σ σ'->Q σ' H)->t vs σ H Q:=by
 induction h with
 |nil=>
  refine⟨_,sQ,λds vs g σ As M H Q hl s r k=>?_⟩
  cases r with
  |nil=>exact⟨rfl,k σ As s (uN.refl _ _)⟩
  |cons _ _=>simp at hl
 |@cons x p i es is hn hs ih=>
  obtain⟨t,q,kk⟩:=ih λj hj=>hb j (aS _ hj)
  refine⟨_,ig (j5 hn.nd hn.ix hn.lc hn.fn) q rfl,λds vs g σ As M H Q hl s r k=>?_⟩
  cases r with
  |nil=>simp at hl
  |@cons d ds v vs r rs=>
   obtain⟨bf,s1⟩:=s.lH (i:=i) (hb i bP) r;refine⟨v,vs,rfl,kk ds vs _ _ bf M H Q (by simpa using hl) s1 rs λσ' aG s' a=>k σ' aG s' ?_⟩
   refine uN.trans ⟨by rw[t6],λj hj=>?_⟩ (a.mono λj hj=>aS _ hj)
   rw[eR (λe=>hj (by rw[<- e];exact bP))]
theorem xV{prog:Program}{w:World}{A:Around}{E:Value->Shared->Prop}{it l:Addr}{xs:Array Value}(ne:l≠it)(n:Nat):∀(i:Nat) (s:Shared) (Q:List Value->Shared->Prop),s.heap.IsListIter it l i->s.heap.IsList l xs->i+n=xs.size->
  (∀h',h'.IsListIter it l xs.size->Heap.SameBut it s.heap h'->Q (xs.toList.drop i) { s with heap:=h'})->wpAny (model prog w) A (draw (.ref it) n) Q E s:=by
 induction n with
 |zero=>
  intro i s Q hit _ hi k;have e:xs.toList.drop i=[]:=List.drop_eq_nil_of_le (by rw[nV];lia)
  have q:=k s.heap (by rw[<- hi];exact hit) (Heap.SameBut.refl ..)
  rw[e]at q;exact d6 q
 |succ n ih=>
  intro i s Q hit hl hi k;have hlt:i<xs.size:=by lia
  refine a9 (wpAny_pyNext_list_item hit hl (x:=xs[i]) (by simp[hlt]) λh1 b1 c1=>?_)
  refine a9 (kA (ih (i+1) _ _ b1 (hl.extBut c1.extBut ne) ⋯ λh2 b2 c2=>d6 ?_))
  have q:=k h2 b2 (c1.trans c2);rw[List.drop_eq_getElem_cons (by rw[nV];exact hlt)]at q
  exact q
theorem vq{prog:Program}{w:World}{A:Around}{E:Value->Shared->Prop}{s:Shared}{l:Addr}{xs:Array Value}{Q:List Value->Shared->Prop}(hh:A.handled=none)(hl:s.heap.IsList l xs)
  (k:∀h',Heap.ExtBut s⁻¹ s.heap h'->Q xs.toList { s with heap:=h'}):wpAny (model prog w) A (unpackItems (.ref l) xs.size none) Q E s:=by
 have ne:l≠s⁻¹:=by obtain⟨o,ho,_⟩:=hl;exact hZ (eD ho)
 unfold unpackItems;refine a9 ?_;unfold notIterableAtAll;refine a9 (wpAny_specialOf hl.typeIs slot_list_iter.lookup ?_);refine d6 ?_;simp only[AA,Co];refine a9 (kA (sR hl ?_));refine a9 (kA (xV ne xs.size 0 _ _ ⟨_,eA _ rfl,rfl,rfl⟩ (hl.push _) (BQ _) λh1 b1 c1=>?_))
 rw[List.drop_zero,eQ ⋯];refine a9 (kA (wpAny_pyNext_list_end hh b1 ((hl.push _).extBut c1.extBut ne) ⋯ λh2 e2=>?_))
 simp only[Option.isSome_none,AA,Co];exact d6 (k h2 λb o nb e=>e2 b o nb (c1.extBut b o nb (b7 _ e)))
def gSeq(K:Frag)(n:Nat)(t:Oq):TG:=λv σ H Q=>∃a xs,v=.ref a/\(fy K H a xs\/bY K H a xs)/\xs.length=n/\t xs σ H Q
theorem RZ{es:List Expr}{k:Nat}{t:Oq}{n:Nat}(hc:X.calm=true)(h:Vl X es t)(hn:(assignEach es X.env).length=n)(fh:(assignEach es X.env).findIdx? (·.1)=none):PG X (.Tuple es k pos) (gSeq X.K n t):=by
 intro ah s σ H v u Q I r hw;obtain⟨a,xs,e1,hq,hl,hw⟩:=hw;rcases hq with hq |hq
 . exact xF hc h hn fh ah s σ H v u Q I r ⟨a,xs,e1,hq,hl,hw⟩
 .
  subst e1;cases r;obtain⟨aA,rv,pl,hz⟩:=I.list hq;rw[assign_Tuple];refine a9 (yA ?_);unfold unpack;rw[fh,show (assignEach es X.env).length=aA.toArray.size by rw[hn,<- hl,rv.length,b6]]
  refine a9 (kA (vq (I.ok.hd hc) pl.isList λh' hx=>?_))
  have I1:L2.Inv X ah σ H { s with heap:=h'}:=I.kept (t':=s.toks) λb o e=>hx b o (hZ (eD e)) e
  exact h ah _ σ H xs _ Q I1 (by simpa using rv) hw
theorem Xs(hc:X.calm=true)(hK:z.K=X.K)(h:kj X es is)(hb:∀i∈is,i∉z.bor):gG X z (.Tuple es k pos) (.tp is):=by
 obtain⟨t,q,kk⟩:=h.pgs (z:=z) hb;refine⟨_,RZ (n:=is.length) hc q h.plain.1 h.plain.2,λd g g' e v σ As M H Q s r k=>?_⟩
 cases d with
 |tup ds=>
  have e:(if ds.length=is.length then some (lK is ds g)else none)=some g':=e
  by_cases hl:ds.length=is.length
  .
   rw[eP hl]at e;cases e;cases r with
   |@tup _ a xs ha rr=>exact⟨a,xs,rfl,.inl (hK▸ha.sq),by rw[<- rr.length];exact hl,kk ds xs g σ As M H Q hl s rr k⟩
  . rw[eQ hl]at e;cases e
 |lst ds=>
  have e:(if ds.length=is.length then some (lK is ds g)else none)=some g':=e
  by_cases hl:ds.length=is.length
  .
   rw[eP hl]at e;cases e;cases r with
   |@lst _ a xs ha rr=>exact⟨a,xs,rfl,.inr (bY.of ha.2),by rw[<- rr.length];exact hl,kk ds xs g σ As M H Q hl s rr k⟩
  . rw[eQ hl]at e;cases e
 |_=>cases e
def Jt(J:It)(ao:List D)(K:Frag)(M1:List Addr)(H1:Hp):Prop:=
 ∀M2 H2,az M1 H1 M2 H2->(∀n d,ao[n]?=some d->J.go n H2/\∀x H',J.Wm n H2 x H'->∀(z:Z) g σ As,z.K=K->S z g σ As M2 H2->S z g σ As M2 H'/\az M2 H2 M2 H'/\Rep K M2 H' d x)/\J.stop ao.length H2
def eH(X:Cx)(z:Z)(tg iter:Expr)(g:G)(ao:List D)(g1:G):Prop:=
 ∃wi,PI X tg iter wi/\∀σ As M H (R:It->Hp->Prop),S z g σ As M H->(∀J H' aG M',S z g1 σ aG M' H'->az M H M' H'->Jt J ao z.K M' H'->R J H')->wi σ H R
theorem R0(hK:z.K=X.K)(h:aB X z iter g (.dat (.tup l)) g1):eH X z tg iter g l g1:=by
 obtain⟨t,q,k⟩:=h;refine⟨_,Ek q,λσ As M H R s kk=>k σ As M H _ s λv H1 bf M1 s1 eu r=>?_⟩
 have r':Rep z.K M1 H1 (.tup l) v:=r;cases r' with
 |@tup _ a xs ha rr=>
  refine⟨a,rfl,⟨xs,hK▸ha.sq⟩,kk _ H1 bf M1 s1 eu λM2 H2 aN=>?_⟩
  have r2:=Rep.stay aN (Rep.tup ha rr);have ha2:TupAt z.K M2 H2 a xs:=by
   rcases ha with ⟨na,hr⟩ |hk
   . exact .inl (aN.rd na hr)
   . exact .inr hk
  have K1:=rr.stay aN;refine⟨λn d hd=>?_,xs,hK▸ha2.sq,by rw[rr.length];exact d5 _⟩
  obtain⟨x,e1,e2⟩:=K1.get hd;refine⟨⟨xs,x,hK▸ha2.sq,e1⟩,λy H' hy z' g' σ' aG _ s'=>?_⟩
  obtain⟨rfl,hy⟩:=hy;have:=hy xs (hK▸ha2.sq);rw[e1]at this;cases this;exact⟨s',az.refl _ _,e2⟩
theorem R3(h:aB X z iter g (.dat (.lst l)) g1):eH X z tg iter g l g1:=by
 obtain⟨t,q,k⟩:=h;refine⟨_,zj q,λσ As M H R s kk=>k σ As M H _ s λv H1 bf M1 s1 eu r=>?_⟩
 have r':Rep z.K M1 H1 (.lst l) v:=r;cases r' with
 |@lst _ a xs ha rr=>
  refine⟨a,rfl,⟨xs,bY.of ha.2⟩,kk _ H1 bf M1 s1 eu λM2 H2 aN=>?_⟩
  have ha2:=(aN _ _ ha.2 ha.1).1;have K1:=rr.stay aN;refine⟨λn d hd=>?_,xs,bY.of ha2,by rw[rr.length];exact d5 _⟩
  obtain⟨x,e1,e2⟩:=K1.get hd;refine⟨⟨xs,x,bY.of ha2,e1⟩,λy H' hy z' g' σ' aG _ s'=>?_⟩
  obtain⟨rfl,hy⟩:=hy;have:=hy xs (bY.of ha2);rw[e1]at this;cases this;exact⟨s',az.refl _ _,e2⟩
theorem R5(hK:z.K=X.K)(h:aB X z iter g (.dat (.fix l)) g1):eH X z tg iter g l g1:=by
 obtain⟨t,q,k⟩:=h;refine⟨_,zj q,λσ As M H R s kk=>k σ As M H _ s λv H1 bf M1 s1 eu r=>?_⟩
 have r':Rep z.K M1 H1 (.fix l) v:=r;cases r' with
 |@fix _ a xs ha rr=>
  refine⟨a,rfl,⟨xs,hK▸ha.sq⟩,kk _ H1 bf M1 s1 eu λM2 H2 aN=>?_⟩
  have ha2:oO z.K M2 H2 a xs:=by
   rcases ha with ⟨na,o,hr⟩ |hk
   . exact .inl ⟨(aN _ _ hr na).2,o,(aN _ _ hr na).1⟩
   . exact .inr hk
  have K1:=rr.stay aN;refine⟨λn d hd=>?_,xs,hK▸ha2.sq,by rw[rr.length];exact d5 _⟩
  obtain⟨x,e1,e2⟩:=K1.get hd;refine⟨⟨xs,x,hK▸ha2.sq,e1⟩,λy H' hy z' g' σ' aG _ s'=>?_⟩
  obtain⟨rfl,hy⟩:=hy;have:=hy xs (hK▸ha2.sq);rw[e1]at this;cases this;exact⟨s',az.refl _ _,e2⟩
theorem FT{lo:Int}{n:Nat}{K:Frag}{M:List Addr}{H:Hp}:Jt (Qn lo n) (bU lo n) K M H:=λM2 H2 _=>by
 refine⟨λk d hd=>?_,?_⟩
 .
  have hk:k<n:=by have:=(b0.mp hd).1;rw[vo]at this;exact this
  rw[FN hk]at hd;cases hd;refine⟨hk,λx H' hx z' g' σ' aG _ s'=>?_⟩
  obtain⟨rfl,rfl⟩:=hx;exact⟨s',az.refl _ _,.int _⟩
 . show n<=(bU lo n).length;rw[vo];exact d5 _
theorem K3(h:dF X z [a] g [.dat (.int j)] g1)(hg:Gl X "range")(hm:X.mg "range"=none)(hs:starEach [a] X.env=[(false,eval a X.env)])(h1 : -(2 ^ 62)<=j)(h2:j<2 ^ 62) :
  eH X z tg (.Call (.Name "range" p) [a] [] rp) g (bU 0 j.toNat) g1:=by
 obtain⟨wi,q,k⟩:=Br (p:=p) (rp:=rp) h hg hm hs h1 h2 (tg:=tg);exact⟨wi,q,λσ As M H R s kk=>k σ As M H _ s λH' aG M' s' st=>kk _ H' aG M' s' st FT⟩
theorem K4(h:dF X z [a,b] g [.dat (.int c),.dat (.int j)] g1)(hg:Gl X "range")(hm:X.mg "range"=none)(hs:starEach [a,b] X.env=[(false,eval a X.env),(false,eval b X.env)])(hs2:starEach [b] X.env=[(false,eval b X.env)])
  (h1 : -(2 ^ 62)<=c/\c<2 ^ 62/\-(2 ^ 62)<=j/\j<2 ^ 62):eH X z tg (.Call (.Name "range" p) [a,b] [] rp) g (bU c (j - c).toNat) g1:=by
 obtain⟨wi,q,k⟩:=Bs (p:=p) (rp:=rp) h hg hm hs hs2 h1 (tg:=tg);exact⟨wi,q,λσ As M H R s kk=>k σ As M H _ s λH' aG M' s' st=>kk _ H' aG M' s' st FT⟩
inductive fK(X:Cx)(z:Z)(body:List Stmt)(T:Tg):List D->G->Fl->G->Prop
 |nil {g:G}:fK X z body T [] g .nx g
 |next {d:D}{l:List D}{g g0 g1 g2:G}{f:Fl}:T.set d g=some g0->fJ X z body g0 .nx g1->fK X z body T l g1 f g2->fK X z body T (d::l) g f g2
 |cont {d:D}{l:List D}{g g0 g1 g2:G}{f:Fl}:T.set d g=some g0->fJ X z body g0 .ct g1->fK X z body T l g1 f g2->fK X z body T (d::l) g f g2
 |brk {d:D}{l:List D}{g g0 g1:G}:T.set d g=some g0->fJ X z body g0 .bk g1->fK X z body T (d::l) g .nx g1
 |ret {d:D}{l:List D}{g g0 g1:G}{r:R}:T.set d g=some g0->fJ X z body g0 (.rt r) g1->fK X z body T (d::l) g (.rt r) g1
theorem R7(hp:PassesOwn (model X.prog X.w) X.A X.env X.xe)(hc:X.calm=true)(hw:eH X z tg iter g ao g1)(ht:gG X z tg T)(hb:fK X z body T ao g1 f g')(hs:∀y,foldedSetIterable iter X.env y=pure y) :
  g7 X z (.For tg iter body [] pos) g f g':=by
 obtain⟨wi,q,k⟩:=hw;obtain⟨t,qt,kt⟩:=ht;refine⟨_,El hp hc q qt zy hs,λσ As M H E s kk=>k σ As M H _ s λJ H1 bf M1 s1 eu hJ=>?_⟩
 refine⟨λi m σ2 H2=>i+m=ao.length/\∃g2 bK M2,S z g2 σ2 bK M2 H2/\az M1 H1 M2 H2/\fK X z body T (ao.drop i) g2 f g',⟨ao.length,by lia,g1,bf,M1,s1,az.refl _ _,by simpa using hb⟩,?_⟩
 rintro i m σ2 H2 ⟨Xu,g2,bK,M2,s2,aN,lo⟩;obtain⟨hgo,hstop⟩:=hJ M2 H2 aN;cases e:ao[i]? with
 |none=>
  have hi:i=ao.length:=by have:=nK.mp e;lia
  subst hi;rw[Ap]at lo;refine .inl ⟨hstop,?_⟩;cases lo;exact kk σ2 bK M2 H2 s2 (eu.trans aN)
 |some d=>
  obtain⟨go,yl⟩:=hgo i d e;rw[drop_cons e]at lo;have hi:i<ao.length:=(b0.mp e).1;refine .inr ⟨go,λσ' H'=>∃g3 lq M3,S z g3 σ' lq M3 H'/\az M1 H1 M3 H'/\fK X z body T (ao.drop (i+1)) g3 f g',λσ' H' ⟨g3,lq,M3,w1,w2,w3⟩=>⟨m - 1,by lia,by lia,g3,lq,M3,w1,w2,w3⟩,λx H' hx=>?_⟩
  obtain⟨s3,eX,rx⟩:=yl x H' hx z g2 σ2 bK rfl s2;have kk':=(kk.trans eu).trans (aN.trans eX);have Xv:=aN.trans eX;cases lo with
  |next e0 b h=>
   refine kt d g2 _ e0 x σ2 bK M2 H' _ s3 rx λσ' aG s' _=>?_
   obtain⟨t,q,kb⟩:=b;exact⟨t,q,kb _ aG M2 H' _ s' λσ4 jI M4 H4 s4 qO=>⟨_,jI,M4,s4,Xv.trans qO,h⟩⟩
  |cont e0 b h=>
   refine kt d g2 _ e0 x σ2 bK M2 H' _ s3 rx λσ' aG s' _=>?_
   obtain⟨t,q,kb⟩:=b;exact⟨t,q,kb _ aG M2 H' _ s' λσ4 jI M4 H4 s4 qO=>⟨_,jI,M4,s4,Xv.trans qO,h⟩⟩
  |brk e0 b=>
   refine kt d g2 _ e0 x σ2 bK M2 H' _ s3 rx λσ' aG s' _=>?_
   obtain⟨t,q,kb⟩:=b;exact⟨t,q,kb _ aG M2 H' _ s' λσ4 jI M4 H4 s4 qO=>kk' σ4 jI M4 H4 s4 qO⟩
  |ret e0 b=>
   refine kt d g2 _ e0 x σ2 bK M2 H' _ s3 rx λσ' aG s' _=>?_
   obtain⟨t,q,kb⟩:=b;exact⟨t,q,kb _ aG M2 H' _ s' λv σ4 jI M4 H4 s4 qO R=>kk' v σ4 jI M4 H4 s4 qO R⟩
end
noncomputable def gC(k:Nat)(g:G):G:=g++(List.replicate k .no++[.own []])
def dI(X:Cx)(z:Z)(ifs:List Expr)(g:G)(b:Bool)(g':G):Prop:=
 ∃t,j7 X ifs t/\∀σ As M H (Q:Bool->Hp->Prop),S z g σ As M H->(∀H' aG M',S z g' σ aG M' H'->az M H M' H'->Q b H')->t σ H Q
theorem K5:dI X z [] g true g:=⟨_,oM,λσ As M H Q s k=>k H As M s (az.refl _ _)⟩
theorem K6(h:dM X z c g b g'):dI X z [c] g b g':=let ⟨t,q,k⟩:=h;⟨t,Ey q,k⟩
inductive jo(T:Tg)(last:Nat)(tO:G->Bool->G->Prop)(Jq:G->D->G->Prop):List D->G->G->Prop
 |nil {g:G}:jo T last tO Jq [] g g
 |skip:T.set d g=some g1->tO g1 false g2->jo T last tO Jq l g2 g'->jo T last tO Jq (d::l) g g'
 |take:T.set d g=some g1->tO g1 true g2->Jq g2 e g3->g3[last]?=some (.own acc)->acc.length<16777216->jo T last tO Jq l (g3.set last (.own (acc++[e]))) g'->jo T last tO Jq (d::l) g g'
section
theorem S.extend(s:S z g σ As M H)(hm:a∈M)(hA:a∉As)(h0:z.H0 a=none)(h:H a=some (.lst xs))(r:aH z.K M H l xs) :
  S z (g++(List.replicate k .no++[.own l])) (σ++(List.replicate k none++[some (.ref a)])) (As++([]++[a])) M H:=by
 have hl:=s.sl.length;refine⟨s.sl.append ((Slots.Zq k).append (.own h r .nil)),?_,λb hb=>?_,λi b l' e1 e2=>?_,s.live,s.keep,s.lG,s.m0,s.bm,λp hp=>?_,s.tab,s.tm,s.tt⟩
 .
  rw[AE];refine v4.mpr ⟨s.nd,fN.mpr ⟨by simp,vS⟩,λx hx y hy e=>?_⟩
  rw[i6.mp hy]at e;exact hA (e▸hx)
 .
  rcases AC.mp hb with q |q
  . exact s.sub b q
  . rw[AE]at q;rw[i6.mp q];exact hm
 .
  rcases sB i g.length with hi |hi
  . rw[dA hi]at e1;rw[dA ⋯]at e2;exact s.own i b l' e1 e2
  .
   rw[eC hi]at e1;rw[eC ⋯]at e2;rcases sB (i - g.length) k with hk |hk
   .
    rw[dA (by rw[i8];exact hk)]at e1
    have:=i5 e1;rw[t9]at this;exact absurd this.2 ⋯
   .
    rw[eC (by rw[i8];lia),i8]at e2
    have e3:i - σ.length - k=0:=by
     rcases Nat.eq_zero_or_pos (i - σ.length - k)with q |q
     . exact q
     . rw[AF (Nat.succ_le_of_lt q)]at e2;cases e2
    rw[e3]at e2;have e4:some (some (V.ref a))=some (some (V.ref b)):=e2;injection e4 with e4;injection e4 with e4;injection e4 with e4;exact .inr (e4▸h0)
 . obtain⟨q1,l',q2⟩:=s.jF p hp;exact⟨by rw[dA (b0.mp q1).1];exact q1,l',by rw[dA (b0.mp q2).1];exact q2⟩
theorem Slots.split{K:Frag}{g1 g2:G}{σ:Sg}{As:List Addr}(q:Slots K M H (g1++g2) σ As):∃σ1 σ2 A1 A2,σ=σ1++σ2/\As=A1++A2/\Slots K M H g1 σ1 A1/\Slots K M H g2 σ2 A2:=by
 induction g1 generalizing σ As with
 |nil=>exact⟨[],_,[],_,rfl,rfl,.nil,q⟩
 |cons o g1 ih=>cases q with
  |no q=>obtain⟨s1,s2,a1,a2,rfl,rfl,h1,h2⟩:=ih q;exact⟨_::s1,s2,a1,a2,rfl,rfl,.no h1,h2⟩
  |dat r q=>obtain⟨s1,s2,a1,a2,rfl,rfl,h1,h2⟩:=ih q;exact⟨_::s1,s2,a1,a2,rfl,rfl,.dat r h1,h2⟩
  |own e r q=>obtain⟨s1,s2,a1,a2,rfl,rfl,h1,h2⟩:=ih q;exact⟨_::s1,s2,_::a1,a2,rfl,rfl,.own e r h1,h2⟩
theorem S.shrink{gb:G}{τ:Sg}{l:List D}{i:Nat}{a:Addr}(s:S z gb (σ++τ) As M H)(hz:∀p∈z.lent,p.1<σ.length)(hi:σ.length<=i)(e1:gb[i]?=some (.own l))(e2:(σ++τ)[i]?=some (some (.ref a))) :
  ∃A1,S z (gb.take σ.length) σ A1 M H/\a∈M/\a∉A1:=by
 have hl:=s.sl.length;rw[dL]at hl;have q:=s.sl;rw[<- AH σ.length gb]at q;obtain⟨σ1,σ2,A1,A2,h1,h2,h3,h4⟩:=q.split;have l1:=h3.length;rw[rV,Nat.min_eq_left ⋯]at l1;obtain⟨rfl,rfl⟩:=List.append_inj h1 l1;subst h2;have hA2:a∈A2:=by
  obtain⟨b,xs,f1,f2,_⟩:=h4.at (i:=i - σ.length) (l:=l) (by rw[List.getElem?_drop,Nat.add_sub_cancel' hi];exact e1)
  rw[eC hi]at e2;rw[e2]at f1;injection f1 with f1;injection f1 with f1;injection f1 with f1;exact f1▸f2
 have tk:∀(j:Nat) (o:Slot),(gb.take σ.length)[j]?=some o->gb[j]?=some o/\j<σ.length:=λj o e=>by
  have hj:=(b0.mp e).1;rw[rV]at hj;have hj':j<σ.length:=fI hj (Nat.min_le_left _ _);rw[oQ hj']at e;exact⟨e,hj'⟩
 refine⟨A1,⟨h3,(v4.mp s.nd).1,λb hb=>s.sub b (pE _ hb),λj b l' c1 c2=>?_,s.live,s.keep,s.lG,s.m0,s.bm,λp hp=>?_,s.tab,s.tm,s.tt⟩,s.sub a (gN _ hA2),λhA=>(v4.mp s.nd).2.2 a hA a hA2 rfl⟩
 . obtain⟨c3,c4⟩:=tk j _ c1;exact s.own j b l' c3 (by rw[dA c4];exact c2)
 . obtain⟨c1,l',c2⟩:=s.jF p hp;have tN:=hz p hp;rw[dA tN]at c1;exact⟨c1,l',by rw[oQ tN];exact c2⟩
theorem dU(h:uN is (σ++τ) σ')(hi:∀i∈is,σ.length<=i):∃τ',σ'=σ++τ':=by
 refine⟨σ'.drop σ.length,?_⟩;have e:σ'.take σ.length=σ:=by
  apply List.ext_getElem?;intro j;rcases sB j σ.length with hj |hj
  . rw[oQ hj,h.2 j (λz=>Nat.not_lt.mpr (hi j z) hj),dA hj]
  . rw[AF (by rw[rV];exact hV (Nat.min_le_left _ _) hj),AF hj]
 have:=(AH σ.length σ').symm;rw[e]at this;exact this
end
section
def Bu(X:Cx)(tg:Expr):TG:=λv σ H Q=>∃t,PG X tg t/\t v σ H Q
theorem jJ:PG X tg (Bu X tg):=λah s σ H v u Q I r h=>let ⟨t,q,k⟩:=h;q ah s σ H v u Q I r k
def FW(X:Cx)(ifs:List Expr):TT:=λσ H Q=>∃t,j7 X ifs t/\t σ H Q
theorem lM:j7 X ifs (FW X ifs):=λah s σ H Q I h=>let ⟨t,q,k⟩:=h;q ah s σ H Q I k
def Bv(X:Cx)(e:Expr):TE:=λσ H Q=>∃t,PE X e t/\t σ H Q
theorem lN:PE X e (Bv X e):=λah s σ H Q I h=>let ⟨t,q,k⟩:=h;q ah s σ H Q I k
theorem pB(hw:eH X z tg iter g ao g1)(ht:∀b:Bk,gG (X.blk N' scope b) z tg T)(hT:∀i∈T.ix,g1.length<=i/\i<g1.length+k)
  (hcp:jo T (g1.length+k) (λg b g'=>∀bk:Bk,dI (X.blk N' scope bk) z ifs g b g') (λg d g'=>∀bk:Bk,aB (X.blk N' scope bk) z cN g (.dat d) g') ao (gC k g1) gE) (hacc:gE[g1.length+k]?=some (.own acc)) :
  ∃wi,PI X tg iter wi/\∀σ As M H Q,S z g σ As M H->Kn z (gE.take g1.length) σ M H (.new acc) Q->rE X k wi (λb=>Bu (X.blk N' scope b) tg) (λb=>FW (X.blk N' scope b) ifs) (λD b=>qL D (Bv (X.blk N' scope b) cN)) σ H Q:=by
 obtain⟨wi,q,kw⟩:=hw;refine⟨wi,q,λσ As M H Q s kq=>kw σ As M H _ s λJ H1 bf M1 s1 eu hJ D hD=>?_⟩
 have hl:g1.length=σ.length:=s1.sl.length;have hz:∀p∈z.lent,p.1<σ.length:=λp hp=>(b0.mp (s1.jF p hp).1).1
 have Vp:∀i∈T.ix,σ.length<=i:=λi hi=>by rw[<- hl];exact (hT i hi).1
 have dj:g1.length+k∉T.ix:=λh=>mB _ (hT _ h).2
 have s1':=s1.aW (xs:=[]) hD;have h0:z.H0 D=none:=s1.cI hD;have nA:D∉bf:=λh=>s1.fresh hD (s1.sub D h)
 have sb:=s1'.extend (k:=k) (l:=[]) bP nA h0 aI .nil;have FZ:(σ++(List.replicate k none++[some (V.ref D)]))[g1.length+k]?=some (some (V.ref D)):=by
  rw[hl,eC (B0 _ _),mP,eC (by rw[i8];exact d5 _),i8,Nat.sub_self]
  rfl
 refine⟨λi m σ' H'=>i+m=ao.length/\∃gb Ab Mb τ,S z gb σ' Ab Mb H'/\az M1 H1 Mb H'/\σ'=σ++τ/\σ'[g1.length+k]?=some (some (.ref D))/\jo T (g1.length+k) (λg b g'=>∀bk:Bk,dI (X.blk N' scope bk) z ifs g b g') (λg d g'=>∀bk:Bk,aB (X.blk N' scope bk) z cN g (.dat d) g') (ao.drop i) gb gE,
  ⟨ao.length,by lia,_,_,_,_,sb,az.aW hD,rfl,FZ,hcp⟩,?_⟩
 rintro i m σ' H' ⟨Xu,gb,Ab,Mb,τ,s2,aN,rfl,Bw,cp⟩;obtain⟨hgo,hstop⟩:=hJ Mb H' aN;cases e:ao[i]? with
 |none=>
  have hi:i=ao.length:=by have:=nK.mp e;lia
  subst hi;rw[Ap]at cp;cases cp;refine .inl ⟨hstop,?_⟩;obtain⟨a,xs,f1,f2,f3,f4⟩:=s2.sl.at hacc;rw[Bw]at f1;injection f1 with f1;injection f1 with f1;injection f1 with f1;subst f1;obtain⟨A1,s3,m3,n3⟩:=s2.shrink hz ⋯ hacc Bw;rw[<- hl]at s3;exact kq _ H' A1 Mb s3 (eu.trans aN) ⟨D,xs,rfl,m3,n3,h0,f3,f4⟩
 |some d=>
  obtain⟨go,yl⟩:=hgo i d e;rw[drop_cons e]at cp;have hi:i<ao.length:=(b0.mp e).1;refine .inr ⟨go,λσ' H'=>∃gb Ab Mb τ,S z gb σ' Ab Mb H'/\az M1 H1 Mb H'/\σ'=σ++τ/\σ'[g1.length+k]?=some (some (.ref D))/\jo T (g1.length+k) (λg b g'=>∀bk:Bk,dI (X.blk N' scope bk) z ifs g b g') (λg d g'=>∀bk:Bk,aB (X.blk N' scope bk) z cN g (.dat d) g') (ao.drop (i+1)) gb gE,
   λBg Bh hN=>⟨m - 1,by lia,by lia,hN⟩,λx H2 hx bk _=>?_⟩
  obtain⟨s3,eX,rx⟩:=yl x H2 hx z gb (σ++τ) Ab rfl s2;obtain⟨t,qt,kt⟩:=ht bk;cases cp with
  |skip e0 hc rest=>
   refine⟨t,qt,kt d gb _ e0 x _ Ab Mb H2 _ s3 rx λσ4 jI s4 ag=>?_⟩
   obtain⟨τ',rfl⟩:=dU ag Vp;obtain⟨t2,q2,k2⟩:=hc bk;refine⟨t2,q2,k2 _ jI Mb H2 _ s4 λH5 DP M5 s5 lC=>?_⟩
   refine qK ⟨_,DP,M5,τ',s5,(aN.trans eX).trans lC,rfl,?_,rest⟩;rw[ag.2 _ dj];exact Bw
  |take e0 hc he ha hz' rest=>
   refine⟨t,qt,kt d gb _ e0 x _ Ab Mb H2 _ s3 rx λσ4 jI s4 ag=>?_⟩
   obtain⟨τ',rfl⟩:=dU ag Vp;obtain⟨t2,q2,k2⟩:=hc bk;obtain⟨t3,q3,k3⟩:=he bk;have K7:(σ++τ')[g1.length+k]?=some (some (V.ref D)):=by rw[ag.2 _ dj];exact Bw
   refine⟨t2,q2,k2 _ jI Mb H2 _ s4 λH5 DP M5 s5 lC=>lE ⟨t3,q3,k3 _ DP M5 H5 _ s5 λv H6 R8 M6 s6 O2 R6=>?_⟩⟩
   obtain⟨a,xs,f1,f2,f3,f4⟩:=s6.sl.at ha;rw[K7]at f1;injection f1 with f1;injection f1 with f1;injection f1 with f1;subst f1;obtain⟨s7,st7⟩:=s6.write ha K7 (f4.append (.cons R6 .nil));refine⟨xs,f3,by rw[<- f4.length,mI];exact hz',_,R8,M6,τ',s7,(((aN.trans eX).trans lC).trans O2).trans st7,rfl,K7,rest⟩
theorem K8(B:bR X.env.scope scope)(hc:X.calm=true)(hN:Names X.N N' scope k)(hw:eH X z tg iter g ao g1)(ht:∀b:Bk,gG (X.blk N' scope b) z tg T)(hT:∀i∈T.ix,g1.length<=i/\i<g1.length+k)
  (hcp:jo T (g1.length+k) (λg b g'=>∀bk:Bk,dI (X.blk N' scope bk) z ifs g b g') (λg d g'=>∀bk:Bk,aB (X.blk N' scope bk) z cN g (.dat d) g') ao (gC k g1) gE) (hacc:gE[g1.length+k]?=some (.own acc))
  (hs:∀x,foldedSetIterable iter X.env x=pure x):aB X z (.ListComp cN [⟨tg,iter,ifs,0⟩] scope pos) g (.new acc) (gE.take g1.length):=by
 obtain⟨wi,q,kk⟩:=pB hw ht hT hcp hacc;exact⟨_,Kh B hc hN q (λb=>⟨jJ,lM,lN⟩) hs,kk⟩
theorem K9(B:bR X.env.scope scope)(hc:X.calm=true)(hN:Names X.N N' scope k)(hw:eH X z tg iter g ao g1)(ht:∀b:Bk,gG (X.blk N' scope b) z tg T)(hT:∀i∈T.ix,g1.length<=i/\i<g1.length+k)
  (hcp:jo T (g1.length+k) (λg b g'=>∀bk:Bk,dI (X.blk N' scope bk) z ifs g b g') (λg d g'=>∀bk:Bk,aB (X.blk N' scope bk) z cN g (.dat d) g') ao (gC k g1) gE) (hacc:gE[g1.length+k]?=some (.own acc))
  (EY:X.N.Nodup) (hy:X.N[i]?=some y) (hl:X.env.scope.names.lookup y=some .local) (hb:i∉z.bor) (hi:i<(gE.take g1.length).length)
  (hsw:swapsWith (.ListComp cN [⟨tg,iter,ifs,0⟩] scope pos) (some (.Name y py)) cg.line X.env=pure true)
  (hs:∀x,foldedSetIterable iter X.env x=pure x):g7 X z (.Assign [.Name y py] (.ListComp cN [⟨tg,iter,ifs,0⟩] scope pos) cg) g .nx ((gE.take g1.length).set i (.own acc)):=by
 obtain⟨wi,q,kk⟩:=pB hw ht hT hcp hacc;refine⟨_,zx B hc hN q (λb=>⟨jJ,lM,lN⟩) EY hy hl hsw hs,λσ As M H E s kE=>kk σ As M H _ s λv H' aG M' s' st R=>?_⟩
 obtain⟨a,xs,rfl,hm,hA,h0,ha,rr⟩:=R;obtain⟨bK,s2⟩:=s'.oU hb hi hm hA h0 ha rr;exact kE _ bK M' H' s2 st
end
section
theorem aB.run(he:aB X z e g r g1)(I:L2.Inv X ah σ H s)(st:S z g σ As M H)
  (k:∀v u s1 H1 bf M1,L2.Inv X ah σ H1 s1->RelV v u->S z g1 σ bf M1 H1->az M H M1 H1->fT z g1 σ bf M1 H1 r v->Post u s1):wpAny (model X.prog X.w) X.A (eval e X.env) Post X.xe s:=by
 obtain⟨t,q,kt⟩:=he;exact cF (q ah s σ H (λv H1=>∃bf M1,S z g1 σ bf M1 H1/\az M H M1 H1/\fT z g1 σ bf M1 H1 r v) I (kt σ As M H _ st λv H1 bf M1 s1 eu R=>⟨bf,M1,s1,eu,R⟩)) λu s1 ⟨v,H1,I1,r1,bf,M1,q1,q2,q3⟩=>k v u s1 H1 bf M1 I1 r1 q1 q2 q3
theorem jY.run(ho:jY X z f d1 d2 r)(I:L2.Inv X ah σ H s)(st:S z g σ As M H)(p1:Pk z.K M H d1 v1)(p2:Pk z.K M H d2 v2)(r1:RelV v1 u1)(r2:RelV v2 u2)
  (k:∀v u s1 H1 bf M1,L2.Inv X ah σ H1 s1->RelV v u->S z g σ bf M1 H1->az M H M1 H1->fT z g σ bf M1 H1 r v->Post u s1):wpAny (model X.prog X.w) X.A (f u1 u2) Post X.xe s:=by
 obtain⟨rr,o,ko⟩:=ho;exact cF (o ah s σ H v1 v2 u1 u2 (λv H1=>∃bf M1,S z g σ bf M1 H1/\az M H M1 H1/\fT z g σ bf M1 H1 r v) I r1 r2 (ko g σ As M H v1 v2 _ st p1 p2 λv H1 bf M1 s1 eu R=>⟨bf,M1,s1,eu,R⟩)) λu s1 ⟨v,H1,I1,r1,bf,M1,q1,q2,q3⟩=>k v u s1 H1 bf M1 I1 r1 q1 q2 q3
theorem aB.of (h:∀(ah:List (Addr×Obj)) (s:Shared) (σ:Sg) (As M:List Addr) (H:Hp) (Post:Value->Shared->Prop),L2.Inv X ah σ H s->S z g σ As M H->
  (∀v u s1 H1 bf M1,L2.Inv X ah σ H1 s1->RelV v u->S z g1 σ bf M1 H1->az M H M1 H1->fT z g1 σ bf M1 H1 r v->Post u s1)->wpAny (model X.prog X.w) X.A (eval e X.env) Post X.xe s):aB X z e g r g1:=
 ⟨λσ H Q=>∃As M,S z g σ As M H/\Kn z g1 σ M H r Q,λah s σ H Q I ⟨As,M,st,k⟩=>h ah s σ As M H _ I st λv u s1 H1 bf M1 I1 r1 q1 q2 q3=>⟨v,H1,I1,r1,k v H1 bf M1 q1 q2 q3⟩,λσ As M H Q s k=>⟨As,M,s,k⟩⟩
theorem dM.of (h:∀(ah:List (Addr×Obj)) (s:Shared) (σ:Sg) (As M:List Addr) (H:Hp) (Post:Bool->Shared->Prop),L2.Inv X ah σ H s->S z g σ As M H->
  (∀s1 H1 bf M1,L2.Inv X ah σ H1 s1->S z g1 σ bf M1 H1->az M H M1 H1->Post b s1)->wpAny (model X.prog X.w) X.A (isTrue e X.env (eval e X.env)) Post X.xe s):dM X z e g b g1:=
 ⟨λσ H Q=>∃As M,S z g σ As M H/\(∀H' aG M',S z g1 σ aG M' H'->az M H M' H'->Q b H'),λah s σ H Q I ⟨As,M,st,k⟩=>h ah s σ As M H _ I st λs1 H1 bf M1 I1 q1 q2=>⟨H1,I1,k H1 bf M1 q1 q2⟩,λσ As M H Q s k=>⟨As,M,s,k⟩⟩
inductive tQ(X:Cx)(z:Z):D->List CmpOp->List Expr->G->Bool->G->Prop
 |last {d1 d2:D}{op:CmpOp}{b:Expr}{g g1:G}{c:Bool}:aB X z b g (.dat d2) g1->jY X z (compareOp op) d1 d2 (.dat (.bl c))->tQ X z d1 [op] [b] g c g1
 |stop {d1 d2:D}{op op':CmpOp}{ops:List CmpOp}{b b':Expr}{bs:List Expr}{g g1:G}:aB X z b g (.dat d2) g1->jY X z (compareOp op) d1 d2 (.dat (.bl false))->tQ X z d1 (op::op'::ops) (b::b'::bs) g false g1
 |link {d1 d2:D}{op op':CmpOp}{ops:List CmpOp}{b b':Expr}{bs:List Expr}{g g1 g2:G}{c:Bool}:aB X z b g (.dat d2) g1->jY X z (compareOp op) d1 d2 (.dat (.bl true))->tQ X z d2 (op'::ops) (b'::bs) g1 c g2->tQ X z d1 (op::op'::ops) (b::b'::bs) g c g2
theorem R9(h:tQ X z d1 ops bs g c g'):∀(ah:List (Addr×Obj)) (s:Shared) (σ:Sg) (H:Hp) (As M:List Addr) (Post:Value->Shared->Prop) (v1:V) (u1:Value),L2.Inv X ah σ H s->S z g σ As M H->Rep z.K M H d1 v1->RelV v1 u1->
  (∀s1 H' aG M',L2.Inv X ah σ H' s1->S z g' σ aG M' H'->az M H M' H'->Post (.bool c) s1)->wpAny (model X.prog X.w) X.A (compareChain pos u1 ops (evalEach bs X.env)) Post X.xe s:=by
 induction h with
 |@last d1 d2 op b g g1 c he ho=>
  intro ah s σ H As M Post v1 u1 I st r rv k;show wpAny _ X.A (compareChain pos u1 [op] [eval b X.env]) _ _ s;refine chain_last (he.run I st λv u s1 H1 bf M1 I1 r1 q1 q2 q3=>ho.run I1 q1 (.of (r.stay q2)) (.of q3) rv r1 λv' u' s2 H2 bK M2 I2 r2 p1 p2 p3=>?_)
  rw[gB p3]at r2;cases r2;exact k s2 H2 bK M2 I2 p1 (q2.trans p2)
 |@stop d1 d2 op op' ops b b' bs g g1 he ho=>
  intro ah s σ H As M Post v1 u1 I st r rv k;show wpAny _ X.A (compareChain pos u1 (op::op'::ops) (eval b X.env::eval b' X.env::evalEach bs X.env)) _ _ s;refine chain_link (he.run I st λv u s1 H1 bf M1 I1 r1 q1 q2 q3=>ho.run I1 q1 (.of (r.stay q2)) (.of q3) rv r1 λv' u' s2 H2 bK M2 I2 r2 p1 p2 p3=>?_)
  rw[gB p3]at r2;cases r2;exact mM (ite_ff (k s2 H2 bK M2 I2 p1 (q2.trans p2)))
 |@link d1 d2 op op' ops b b' bs g g1 g2 c he ho hch ih=>
  intro ah s σ H As M Post v1 u1 I st r rv k;show wpAny _ X.A (compareChain pos u1 (op::op'::ops) (eval b X.env::eval b' X.env::evalEach bs X.env)) _ _ s;refine chain_link (he.run I st λv u s1 H1 bf M1 I1 r1 q1 q2 q3=>ho.run I1 q1 (.of (r.stay q2)) (.of q3) rv r1 λv' u' s2 H2 bK M2 I2 r2 p1 p2 p3=>?_)
  rw[gB p3]at r2;cases r2;exact mM (ite_tt (ih ah s2 σ H2 bK M2 Post v u I2 p1 (Rep.stay p2 q3) r1 λs3 H3 lq M3 I3 w1 w2=>k s3 H3 lq M3 I3 w1 ((q2.trans p2).trans w2)))
theorem La(h:tQ X z d1 ops bs g c g'):∀(ah:List (Addr×Obj)) (s:Shared) (σ:Sg) (H:Hp) (As M:List Addr) (Post:Bool->Shared->Prop) (v1:V) (u1:Value),L2.Inv X ah σ H s->S z g σ As M H->Rep z.K M H d1 v1->RelV v1 u1->
  (∀s1 H' aG M',L2.Inv X ah σ H' s1->S z g' σ aG M' H'->az M H M' H'->Post c s1)->wpAny (model X.prog X.w) X.A (testChain pos u1 ops (evalEach bs X.env)) Post X.xe s:=by
 induction h with
 |@last d1 d2 op b g g1 c he ho=>
  intro ah s σ H As M Post v1 u1 I st r rv k;show wpAny _ X.A (testChain pos u1 [op] [eval b X.env]) _ _ s;refine test_last (he.run I st λv u s1 H1 bf M1 I1 r1 q1 q2 q3=>ho.run I1 q1 (.of (r.stay q2)) (.of q3) rv r1 λv' u' s2 H2 bK M2 I2 r2 p1 p2 p3=>?_)
  rw[gB p3]at r2;cases r2;exact mM (k s2 H2 bK M2 I2 p1 (q2.trans p2))
 |@stop d1 d2 op op' ops b b' bs g g1 he ho=>
  intro ah s σ H As M Post v1 u1 I st r rv k;show wpAny _ X.A (testChain pos u1 (op::op'::ops) (eval b X.env::eval b' X.env::evalEach bs X.env)) _ _ s;refine test_link (he.run I st λv u s1 H1 bf M1 I1 r1 q1 q2 q3=>ho.run I1 q1 (.of (r.stay q2)) (.of q3) rv r1 λv' u' s2 H2 bK M2 I2 r2 p1 p2 p3=>?_)
  rw[gB p3]at r2;cases r2;exact mM (ite_ff (k s2 H2 bK M2 I2 p1 (q2.trans p2)))
 |@link d1 d2 op op' ops b b' bs g g1 g2 c he ho hch ih=>
  intro ah s σ H As M Post v1 u1 I st r rv k;show wpAny _ X.A (testChain pos u1 (op::op'::ops) (eval b X.env::eval b' X.env::evalEach bs X.env)) _ _ s;refine test_link (he.run I st λv u s1 H1 bf M1 I1 r1 q1 q2 q3=>ho.run I1 q1 (.of (r.stay q2)) (.of q3) rv r1 λv' u' s2 H2 bK M2 I2 r2 p1 p2 p3=>?_)
  rw[gB p3]at r2;cases r2;exact mM (ite_tt (ih ah s2 σ H2 bK M2 Post v u I2 p1 (Rep.stay p2 q3) r1 λs3 H3 lq M3 I3 w1 w2=>k s3 H3 lq M3 I3 w1 ((q2.trans p2).trans w2)))
theorem Ga(ha:aB X z a g (.dat d1) g1)(h:tQ X z d1 (Lb::Lc::ops) (b1::b2::bs) g1 c g2)(hm:lastMarks (Lb::Lc::ops) (b1::b2::bs)=false):aB X z (.Compare a (Lb::Lc::ops) (b1::b2::bs) pos) g (.dat (.bl c)) g2:=
 aB.of λah s σ As M H Post I st k=>Compare_chain (ha.run I st λv u s1 H1 bf M1 I1 r1 q1 q2 q3=>R9 h ah s1 σ H1 bf M1 Post v u I1 q1 q3 r1 λs2 H2 bK M2 I2 p1 p2=>k (.bl c) (.bool c) s2 H2 bK M2 I2 rfl p1 (q2.trans p2) (.bl c)) hm
theorem Gb(ha:aB X z a g (.dat d1) g1)(h:tQ X z d1 (Lb::Lc::ops) (b1::b2::bs) g1 c g2)(hm:lastMarks (Lb::Lc::ops) (b1::b2::bs)=false):dM X z (.Compare a (Lb::Lc::ops) (b1::b2::bs) pos) g c g2:=
 dM.of λah s σ As M H Post I st k=>isTrue_chain (ha.run I st λv u s1 H1 bf M1 I1 r1 q1 q2 q3=>La h ah s1 σ H1 bf M1 Post v u I1 q1 q3 r1 λs2 H2 bK M2 I2 p1 p2=>k s2 H2 bK M2 I2 p1 (q2.trans p2)) hm
inductive nM(X:Cx)(z:Z)(c:Expr)(body:List Stmt):Nat->G->Fl->G->Prop
 |done {n:Nat}{g g1:G}:dM X z c g false g1->nM X z c body n g .nx g1
 |next {n:Nat}{g g1 g2 g3:G}{f:Fl}:dM X z c g true g1->fJ X z body g1 .nx g2->nM X z c body n g2 f g3->nM X z c body (n+1) g f g3
 |cont {n:Nat}{g g1 g2 g3:G}{f:Fl}:dM X z c g true g1->fJ X z body g1 .ct g2->nM X z c body n g2 f g3->nM X z c body (n+1) g f g3
 |brk {n:Nat}{g g1 g2:G}:dM X z c g true g1->fJ X z body g1 .bk g2->nM X z c body n g .nx g2
 |ret {n:Nat}{g g1 g2:G}{r:R}:dM X z c g true g1->fJ X z body g1 (.rt r) g2->nM X z c body n g (.rt r) g2
def Xw(X:Cx)(e:Expr):TT:=λσ H Q=>∃t,PT X e t/\t σ H Q
theorem Sd{e:Expr}:PT X e (Xw X e):=λah s σ H Q I h=>let ⟨t,q,k⟩:=h;q ah s σ H Q I k
theorem Gd{ce:Expr}{body:List Stmt}{n:Nat}{f:Fl}{g':G}(hp:PassesOwn (model X.prog X.w) X.A X.env X.xe)(h:nM X z ce body n g f g'):g7 X z (.While ce body [] pos) g f g':=by
 refine⟨_,Ej hp Sd zy,λσ As M H E s k=>?_⟩
 refine⟨λm σ2 H2=>∃g2 bK M2,S z g2 σ2 bK M2 H2/\az M H M2 H2/\nM X z ce body m g2 f g',⟨n,g,As,M,s,az.refl _ _,h⟩,?_⟩
 rintro m σ2 H2 ⟨g2,bK,M2,s2,aN,w⟩;cases w with
 |done hc=>obtain⟨t,q,kt⟩:=hc;exact⟨t,q,kt σ2 bK M2 H2 _ s2 λH3 lq M3 s3 eX=>qK (k σ2 lq M3 H3 s3 (aN.trans eX))⟩
 |@next m' _ g3 g4 _ _ hc hb w'=>
  obtain⟨t,q,kt⟩:=hc;obtain⟨tb,qb,kb⟩:=hb;refine⟨t,q,kt σ2 bK M2 H2 _ s2 λH3 lq M3 s3 eX=>lE ⟨λσ' H'=>∃g2 bK M2,S z g2 σ' bK M2 H'/\az M H M2 H'/\nM X z ce body m' g2 f g',λσ' H' hN=>⟨m',l5 _,hN⟩,tb,qb,kb σ2 lq M3 H3 _ s3 λσ4 jI M4 H4 s4 qO=>?_⟩⟩
  exact⟨g4,jI,M4,s4,(aN.trans eX).trans qO,w'⟩
 |@cont m' _ g3 g4 _ _ hc hb w'=>
  obtain⟨t,q,kt⟩:=hc;obtain⟨tb,qb,kb⟩:=hb;refine⟨t,q,kt σ2 bK M2 H2 _ s2 λH3 lq M3 s3 eX=>lE ⟨λσ' H'=>∃g2 bK M2,S z g2 σ' bK M2 H'/\az M H M2 H'/\nM X z ce body m' g2 f g',λσ' H' hN=>⟨m',l5 _,hN⟩,tb,qb,kb σ2 lq M3 H3 _ s3 λσ4 jI M4 H4 s4 qO=>?_⟩⟩
  exact⟨g4,jI,M4,s4,(aN.trans eX).trans qO,w'⟩
 |brk hc hb=>obtain⟨t,q,kt⟩:=hc;obtain⟨tb,qb,kb⟩:=hb;exact⟨t,q,kt σ2 bK M2 H2 _ s2 λH3 lq M3 s3 eX=>lE ⟨λ_ _=>False,λσ' H' hN=>hN.elim,tb,qb,kb σ2 lq M3 H3 _ s3 λσ4 jI M4 H4 s4 qO=>k σ4 jI M4 H4 s4 ((aN.trans eX).trans qO)⟩⟩
 |ret hc hb=>obtain⟨t,q,kt⟩:=hc;obtain⟨tb,qb,kb⟩:=hb;exact⟨t,q,kt σ2 bK M2 H2 _ s2 λH3 lq M3 s3 eX=>lE ⟨λ_ _=>False,λσ' H' hN=>hN.elim,tb,qb,kb σ2 lq M3 H3 _ s3 λv σ4 jI M4 H4 s4 qO R=>k v σ4 jI M4 H4 s4 ((aN.trans eX).trans qO) R⟩⟩
noncomputable def Ld:D->Option Bool
 |.bl b=>some b
 |.non=>some false
 |.int i=>some (i != 0)
 |.lst l=>some (!l.isEmpty)
 |.tup l=>some (!l.isEmpty)
 |.fix l=>some (!l.isEmpty)
 |_=>none
end
end Ev
namespace HT
section
theorem jq{t sl:Addr}{ao:Array Value}{vl vu:Value}{lo hi:Option Int}{Q:Value->Shared->Prop}(ht:IsTup s.heap t ao)(hs:s.heap.IsSliceOf sl vl vu .none)(pl:IsPart vl lo)(pu:IsPart vu hi)
  (hw:cG ao.size 0 lo=0/\cG ao.size ao.size hi=ao.size)
  (h:Q (.ref t) s):wpAny (model prog w) A (getItem (.ref t) (.ref sl)) Q E s:=by
 obtain⟨os,hos,hcs,hds⟩:=id hs;have hTs:s.TypeIs (.ref sl) "slice" :=⟨os,hos,hcs⟩;unfold getItem
 try with_reducible refine kA ?_
 first |refine a9 (d6 ?_) |skip
 refine a9 (wpAny_sequenceKey ht.typeIs ⋯ ?_);refine a9 (y6 (name:=Str.ofString "__getitem__") ht.typeIs sT
  (An sT ht.typeIs entry_tuple_getitem ?_ (args_tuple_getitem _ _)))
 show wpAny _ _ (Builtin.Tuple.tupleItemsOf (.ref t) >>= _) _ _ s;refine a9 (tupleItemsOf_ ht ?_);refine a9 (Cs hTs ?_);rw[eP ⋯];refine a9 (gq hs pl pu ?_);have hyes:(((cG ao.size 0 lo:Nat):Int)==0&&(1:Int)==1&&(cG ao.size ao.size hi - cG ao.size 0 lo)==ao.size)=true:=by rw[hw.1,hw.2];simp
 show wpAny _ _ (if (((cG ao.size 0 lo:Nat):Int)==0&&(1:Int)==1&&(cG ao.size ao.size hi - cG ao.size 0 lo)==ao.size)=true then _ else _) _ _ s
 rw[eP hyes];refine a9 (m:=Builtin.Tuple.tupleIsExact _) (a9 (Cs ht.typeIs (d6 ?_)));rw[eP ⋯];exact a9 (wpAny_rule (d6 ⟨_,rfl,d6 h⟩))
end
end HT
namespace Ev
open L2
def lO{α:Type}(xs:List α)(lo hi:Option Int):List α:=(xs.drop (HT.cG xs.length 0 lo)).take (HT.cG xs.length xs.length hi - HT.cG xs.length 0 lo)
theorem xW{α:Type}{xs:List α}{lo hi:Option Int}(h:HT.cG xs.length 0 lo=0/\HT.cG xs.length xs.length hi=xs.length):lO xs lo hi=xs:=by unfold lO;rw[h.1,h.2,List.drop_zero,Nat.sub_zero,B1]
section
variable{lo hi:Option Expr}
def rSlA(K:Frag):V->Option Int->Option Int->Hp->VK->Prop:=λx lo hi H Q=>∃a xs,x=.ref a/\fy K H a xs/\
 ((HT.cG xs.length 0 lo=0/\HT.cG xs.length xs.length hi=xs.length/\Q (.ref a) H)\/(¬ (HT.cG xs.length 0 lo=0/\HT.cG xs.length xs.length hi=xs.length)/\∀p,H p=none->Q (.ref p) (upd H p (.tup (sU xs lo hi)))))
theorem Le:Zk X (rSlA X.K):=by
 intro ah s σ H x v vl vu lo hi sl Q I rx hs pl pu h;obtain⟨a,xs,rfl,hx,h⟩:=h;rcases h with ⟨h1,h2,q⟩ |⟨h1,q⟩
 .
  cases rx;obtain⟨aA,r,ht,hz⟩:=I.tuple hx;have aJ:aA.toArray.size=xs.length:=by rw[b6];exact r.length.symm
  refine⟨"tuple",_,PyProof.Rows.slot_tuple_getitem.lookup,ht.typeIs,?_⟩;exact HT.jq ht hs pl pu (by rw[aJ];exact⟨h1,h2⟩) ⟨.ref a,H,I,rfl,q⟩
 . exact QD ah s σ H (.ref a) v vl vu lo hi sl Q I rx hs pl pu ⟨a,xs,rfl,hx,h1,q⟩
def tR(X:Cx)(z:Z)(e:Option Expr)(g:G)(o:Option Int)(g':G):Prop:=
 ∃t,PO X e t/\∀σ As M H (Q:Option Int->Hp->Prop),S z g σ As M H->(∀H' aG M',S z g' σ aG M' H'->az M H M' H'->Q o H')->t σ H Q
theorem Bx:tR X z none g none g:=⟨_,J6,λσ As M H Q s k=>k H As M s (az.refl _ _)⟩
theorem By(h:aB X z e g (.dat (.int i)) g1):tR X z (some e) g (some i) g1:=by
 obtain⟨t,q,k⟩:=h;refine⟨_,J7 q,λσ As M H Q s kk=>k σ As M H _ s λv H' aG M' s' st R=>?_⟩
 have R':Rep z.K M' H' (.int i) v:=R;cases R';exact⟨i,rfl,kk H' aG M' s' st⟩
theorem aH.cut{K:Frag}{M:List Addr}{H:Hp}{ds:List D}{vs:List V}(r:aH K M H ds vs)(l u:Option Int):aH K M H (lO ds l u) (sU vs l u):=by unfold lO sU;rw[r.length];exact aH.take _ (aH.drop _ r)
theorem BG{r:R}{l:List D}{d:D}{i j:Option Int}(hK:z.K=X.K)(h:aB X z a g r g1)(h1:tR X z lo g1 i g2)(h2:tR X z hi g2 j g3)(hp:pk r g3=some (.lst l)):aB X z (.Subscript a (.Slice lo hi none p2) pos) g (.new (lO l i j)) g3:=by
 obtain⟨t,q,k⟩:=h;obtain⟨t1,q1,k1⟩:=h1;obtain⟨t2,q2,k2⟩:=h2;refine⟨_,oJ zp q q1 q2,λσ As M H Q s kk=>k σ As M H _ s λv H1 bf M1 s1 eu R=>k1 σ bf M1 H1 _ s1 λH2 bK M2 s2 aN=>k2 σ bK M2 H2 _ s2 λH3 lq M3 s3 eX=>?_⟩
 obtain⟨b,xs,rfl,e1,e2⟩:=(s3.pk (aN.trans eX) R hp).list;refine⟨b,xs,rfl,bY.of e1,λp hp=>?_⟩
 exact kk _ _ lq (p::M3) (s3.aW hp) (((eu.trans aN).trans eX).trans (az.aW hp)) ⟨p,_,rfl,bP,λhA=>s3.fresh hp (s3.sub p hA),s3.cI hp,aI,(e2.cut i j).stay (az.aW hp)⟩
theorem BJ(hK:z.K=X.K)(h:aB X z a g (.dat (.fix l)) g1)(h1:tR X z lo g1 i g2)(h2:tR X z hi g2 j g3):aB X z (.Subscript a (.Slice lo hi none p2) pos) g (.new (lO l i j)) g3:=by
 obtain⟨t,q,k⟩:=h;obtain⟨t1,q1,k1⟩:=h1;obtain⟨t2,q2,k2⟩:=h2;refine⟨_,oJ zp q q1 q2,λσ As M H Q s kk=>k σ As M H _ s λv H1 bf M1 s1 eu R=>k1 σ bf M1 H1 _ s1 λH2 bK M2 s2 aN=>k2 σ bK M2 H2 _ s2 λH3 lq M3 s3 eX=>?_⟩
 have R':Rep z.K M3 H3 (.fix l) v:=Rep.stay (aN.trans eX) R;cases R' with
 |@fix _ b xs e1 e2=>
  refine⟨b,xs,rfl,hK▸e1.sq,λp hp=>?_⟩
  exact kk _ _ lq (p::M3) (s3.aW hp) (((eu.trans aN).trans eX).trans (az.aW hp)) ⟨p,_,rfl,bP,λhA=>s3.fresh hp (s3.sub p hA),s3.cI hp,aI,(e2.cut i j).stay (az.aW hp)⟩
theorem BK(hK:z.K=X.K)(h:aB X z a g (.dat (.tup l)) g1)(h1:tR X z lo g1 i g2)(h2:tR X z hi g2 j g3):aB X z (.Subscript a (.Slice lo hi none p2) pos) g (.dat (.tup (lO l i j))) g3:=by
 obtain⟨t,q,k⟩:=h;obtain⟨t1,q1,k1⟩:=h1;obtain⟨t2,q2,k2⟩:=h2;refine⟨_,oJ Le q q1 q2,λσ As M H Q s kk=>k σ As M H _ s λv H1 bf M1 s1 eu R=>k1 σ bf M1 H1 _ s1 λH2 bK M2 s2 aN=>k2 σ bK M2 H2 _ s2 λH3 lq M3 s3 eX=>?_⟩
 have R':Rep z.K M3 H3 (.tup l) v:=Rep.stay (aN.trans eX) R;cases R' with
 |@tup _ b xs e1 e2=>
  refine⟨b,xs,rfl,hK▸e1.sq,?_⟩;by_cases hw:HT.cG xs.length 0 i=0/\HT.cG xs.length xs.length j=xs.length
  .
   refine .inl ⟨hw.1,hw.2,kk _ _ lq M3 s3 ((eu.trans aN).trans eX) ?_⟩;have e:lO l i j=l:=xW (by rw[e2.length];exact hw)
   rw[e];exact .tup e1 e2
  . exact .inr ⟨hw,λp hp=>kk _ _ lq M3 (s3.laid hp) (((eu.trans aN).trans eX).trans (az.laid hp)) (.tup (.inl ⟨s3.fresh hp,.inl aI⟩) ((e2.cut i j).stay (az.laid hp)))⟩
theorem Ge(hK:z.K=X.K)(h:aB X z e g r g1)(hp:pk r g1=some d)(hb:Ld d=some b)(he:∀whole,isTrue e X.env whole=(do let v <- whole;standAt e.pos;holding [v] (truthy v))):dM X z e g b g1:=by
 obtain⟨t,q,k⟩:=h;refine⟨_,En q he,λσ As M H Q s kk=>k σ As M H _ s λv H1 bf M1 s1 eu R=>⟨b,?_,kk H1 bf M1 s1 eu⟩⟩
 have p:=s1.pk (az.refl _ _) R hp;cases d with
 |non=>rw[p.non];cases hb;rfl
 |bl c=>rw[p.bl];cases hb;rfl
 |int i=>rw[p.int];cases hb;rfl
 |str x=>cases hb
 |emp=>cases hb
 |DN _=>cases hb
 |vg _ _=>cases hb
 |lst l=>obtain⟨a,xs,rfl,e1,e2⟩:=p.list;cases hb;refine .inl ⟨xs,bY.of e1,?_⟩;cases e2 <;> rfl
 |tup l=>obtain⟨a,xs,rfl,e1,e2⟩:=p.tup;cases hb;refine .inr (.inl ⟨xs,hK▸e1.sq,?_⟩);cases e2 <;> rfl
 |fix l=>obtain⟨a,xs,rfl,e1,e2⟩:=p.fix;cases hb;refine .inl ⟨xs,hK▸e1.sq,?_⟩;cases e2 <;> rfl
theorem Se(hn:pA X x i)(hb:i∉z.bor)(h:aB X z e g (.dat d2) g1)(hg:g[i]?=some (.dat d1))(ho:jY X z (inplaceOp op) d1 d2 (.dat d)) :
  g7 X z (.AugAssign (.Name x pos') op e pos) g .nx (g1.set i (.dat d)):=by
 obtain⟨t,q,k⟩:=h;obtain⟨rr,o,ko⟩:=ho;refine⟨_,Ei hn.nd hn.ix hn.lc q (show PIp X op rr from λah s σ H x y v u Q I r1 r2 hq=>o ah s σ H x y v u Q I r1 r2 hq) hn.fn,λσ As M H E s kk=>?_⟩
 obtain⟨v1,e1,r1⟩:=s.sl.oR hg;refine⟨v1,e1,k σ As M H _ s λv2 H1 bf M1 s1 eu R=>ko g1 σ bf M1 H1 v1 v2 _ s1 (.of (r1.stay eu)) (.of R) λv H2 bK M2 s2 aN R2=>?_⟩
 obtain⟨lq,s3⟩:=s2.lH (i:=i) hb R2;exact kk _ lq M2 H2 s3 (eu.trans aN)
end
section
structure TyOk(X:Cx)(T:Str)(n:String):Prop where
 gl:Gl X T
 mg:X.mg T=none
 bt:bootBuiltins T=some (.type n)
 nn:T≠ "__name__"
 db:(T==("__debug__":Str))=false
inductive zB(X:Cx):List Expr->List String->Prop
 |nil:zB X [] []
 |cons {T:Str}{n:String}{p:Pos}{es:List Expr}{ns:List String}:TyOk X T n->zB X es ns->zB X (.Name T p::es) (n::ns)
theorem BL(hN:X.N[i]?=some x)(hv:mQ X.env.scope x)(hd:(x==("__debug__":Str))=false)(eS:(x==("__classdict__":Str))=false)(hg:g[i]?=some (.own l0))(h:dF X z [e] g [.dat (.lst m)] g1)(uM:g1[i]?=some (.own l))(hl:l.length+m.length<=16777216)
  (hbase:attributeBase (.Name x pn) "extend" X.env (eval (.Name x pn) X.env)=eval (.Name x pn) X.env)
  (hfew:((backTo bQ (starEach [e] X.env)).all (λx=>!x.1)&&(backToKw bQ (keywordEach [] X.env)).all (λx=>x.1.isSome)
   && decide ([e].length+([]:List Keyword).length+(if ([]:List Keyword).isEmpty then 0 else 1)<30))=true)
  (hline:(eo.endLine==bQ.line)=true) (hs:starEach [e] X.env=(false,eval e X.env)::starEach [] X.env):aB X z (.Call (.Attribute (.Name x pn) "extend" eo) [e] [] bQ) g (.dat .non) (g1.set i (.own (l++m))):=by
 obtain⟨t,q,k⟩:=h;refine⟨_,zq y7 PySem.F.slot_list_extend PySem.F.type_list_extend Bd (dH hN hv hd eS) q hbase hfew hline hs rfl,λσ As M H Q s kk=>?_⟩
 obtain⟨a,xs,e1,e2,e3,e4⟩:=s.sl.at hg;refine⟨.ref a,e1,.inl ⟨rfl,xs,bY.of e3⟩,k σ As M H _ s λvs H' aG M' s' st R=>?_⟩
 obtain⟨b,ys,f1,f2,f3,f4⟩:=s'.sl.at uM;rw[e1]at f1;injection f1 with f1;injection f1 with f1;injection f1 with f1;subst f1;cases R with
 |dat r R=>
  cases R;cases r with
  |@lst _ c zs hc rr=>
   refine⟨a,c,ys,zs,rfl,rfl,f3,hc.2,by rw[<- f4.length,<- rr.length,mI];exact hl,?_⟩
   obtain⟨s2,aN⟩:=s'.write uM e1 (f4.append rr);exact kk _ _ aG M' s2 (st.trans aN) .non
end
noncomputable def ins(a:Int):List Int->List Int
 | []=>[a]
 |b::l=>if a<=b then a::b::l else b::ins a l
def bw:List Int->List Int
 | []=>[]
 |a::l=>ins a (bw l)
theorem pC(a:Int):∀l:List Int,(ins a l).Perm (a::l)
 | []=>oI _
 |b::l=>by
  unfold ins;split
  . exact oI _
  . exact ((pC a l).cons b).trans (List.Perm.swap a b l)
theorem bM:∀l:List Int,(bw l).Perm l
 | []=>oI _
 |a::l=>(pC a _).trans ((bM l).cons a)
theorem pF(a:Int):∀{l:List Int},l.Pairwise (· <= ·)->(ins a l).Pairwise (· <= ·)
 | [],_=>List.pairwise_singleton _ _
 |b::l,h=>by
  obtain⟨h1,h2⟩:=yB.mp h;unfold ins;split
  .
   rename_i hab;refine yB.mpr ⟨λx hx=>?_,h⟩
   rcases dS.mp hx with rfl |hx
   . exact hab
   . exact Int.le_trans hab (h1 x hx)
  .
   rename_i hab;refine yB.mpr ⟨λx hx=>?_,pF a h2⟩
   rcases dS.mp ((pC a l).mem_iff.mp hx)with rfl |hx
   . lia
   . exact h1 x hx
theorem kr:∀l:List Int,(bw l).Pairwise (· <= ·)
 | []=>List.Pairwise.nil
 |a::l=>pF a (kr l)
theorem jK(hp:m.Perm l)(hs:m.Pairwise (· <= ·)):m=bw l:=
 (hp.trans (bM l).symm).eq_of_pairwise (λx y _ _ h1 h2=>Int.le_antisymm h1 h2) hs (kr l)
section
theorem gf(hl:IsTup s.heap l vs.toArray)
  (h:Q vs { s with heap:=(s.heap.push (seqObj "list" #[] 0)).update s⁻¹ (Obj.mapSeq (· ++ vs.toArray))}) (DY:vs.length<=sizeLine) :
  wpAny (model prog w) A (collect (.ref l)) Q E s:=by
 obtain⟨o,ho,hc,n,hd⟩:=id hl;unfold collect;refine a9 (wpAny_runValue (A5 entry_proto_collect' ?_));show wpAny _ _ (do again (.builtin "list.__iadd__" ⟨[<- newList [],.ref l],[]⟩)) _ _ s
 refine a9 (A6 (d6 ⟨Code.quiet_builtin _ (by decide +kernel),A5 entry_list_iadd' ?_⟩))
 show wpAny _ _ (Builtin.List.listExtendWith (.ref s⁻¹) (.ref l) (.ref s⁻¹)) _ _ { s with heap:=s.heap.push (seqObj "list" #[] 0)};unfold Builtin.List.listExtendWith;have ho':(s.heap.push (seqObj "list" #[] 0)).get? l=some o:=b7 _ ho;refine a9 (Cs (T:= "tuple") ⟨o,ho',hc⟩ ?_);have ht:(Value.type "tuple" == Value.type "tuple")=true:=by rfl
 rw[eP (by rw[ht];simp)]
 refine a9 (listItems_at ho' hd ?_);refine a9 (listItems_at (xs:=#[]) (n:=0) (eA _ rfl) rfl ?_);rw[eQ ⋯];refine a9 (listUpdate_at (xs:=#[]) (n:=0) (eA _ rfl) rfl ?_ (u4 _) (by show (#[]++vs.toArray).size<=sizeLine+1;simp only[Array.size_append,b6,tS];lia))
 refine d6 ?_;show wpAny (model prog w) A (do
   let o <- load s⁻¹
   match o.data with
   |.seq xs _=>pure xs.toList
   |_=>unsupported "internal:collect") Q E { s with heap:=(s.heap.push (seqObj "list" #[] 0)).update s⁻¹ (Obj.mapSeq (· ++ vs.toArray))}
 refine a9 (wpAny_load (get?_update_seq (eA _ rfl) _) ?_);show wpAny _ _ (pure ((#[]:Array Value)++vs.toArray).toList) Q E _;rw[show ((#[]:Array Value)++vs.toArray).toList=vs by simp]
 exact d6 h
theorem tT(hl:IsTup s.heap l vs.toArray)(hI:IntsAre vs ns)(h64:vs.length<64)
  (h:∀(out:Array Value) (ns':List Int),IntsAre out.toList ns'->ns'.Perm ns->ns'.Pairwise (· <= ·)->Q (.ref (s⁻¹+1)) { s with heap:=sortedAll s.heap vs out}) :
  wpAny (model prog w) A (call (.builtin "sorted") [.ref l]) Q E s:=by
 refine Calls.call_function_entry kind_sorted plain_sorted entry_sorted (args_sorted1 _) ?_;unfold Builtin.«sorted»;refine a9 (m:=checkCount "sorted" 1 1 _) (d6 ?_);refine a9 (gf hl ?_ (by rw[mI];lia))
 refine a9 (A6 ?_);have DY:((s.heap.push (seqObj "list" #[] 0)).update s⁻¹ (Obj.mapSeq (· ++ vs.toArray))).objs.size=s⁻¹+1:=by rw[AR,size_push']
 have Zf:(((s.heap.push (seqObj "list" #[] 0)).update s⁻¹ (Obj.mapSeq (· ++ vs.toArray))).push (seqObj "list" vs.toArray 0)).get? (s⁻¹+1)=some (seqObj "list" vs.toArray 0):=by rw[<- DY];exact eA _ rfl
 show wpAny _ _ _ _ _ { s with heap:=((s.heap.push (seqObj "list" #[] 0)).update s⁻¹ (Obj.mapSeq (· ++ vs.toArray))).push (seqObj "list" vs.toArray 0)};rw[DY];refine a9 (kA (An slot_list_sort ⟨_,Zf,rfl⟩ entry_list_sort (list_sort_tree Zf hI h64 λout ns' a1 a2 a3=>⟨_,rfl,?_⟩) (args_list_sort _)))
 exact d6 ⟨_,rfl,h out ns' a1 a2 a3⟩
end
section
theorem vA:dO X (.builtin "sorted") (λxs H Q=>∃p ns,xs=[.ref p]/\(bY X.K H p (ns.map V.int)\/fy X.K H p (ns.map V.int))/\ns.length<64/\∀q,H q=none->Q (.ref q) (upd H q (.lst ((bw ns).map V.int)))):=by
 intro ah s σ H xs us Q I r h;obtain⟨p,ns,rfl,hq,hl,q⟩:=h;obtain⟨u,rfl,rx⟩:=vals1 r;cases rx;have fin:∀(vs:List Value) (out:Array Value) (ns':List Int),IntsAre out.toList ns'->ns'.Perm ns->ns'.Pairwise (· <= ·)->EP X ah σ Q (.ref (s⁻¹+1)) { s with heap:=sortedAll s.heap vs out}:=λvs out ns' a1 a2 a3=>by
  have e:=jK a2 a3;subst e;obtain⟨ep,he⟩:=sortedAll_at s.heap vs out;have aJ:(bw ns).length=ns.length:=(bM ns).length_eq;refine⟨.ref (s⁻¹+1),_,I.laid (t':=s.toks) (o:=.lst ((bw ns).map V.int)) (λb o e=>sortedAll_old e) (wE _) ?_,rfl,q _ (I.hok.fresh (wE _))⟩
  refine⟨by rw[dC,aJ,mI];lia,out.toList,ep,iY a1,?_⟩
  rw[he]
 rcases hq with hq |hq
 . obtain⟨aA,r',pl,hz⟩:=I.list hq;have aJ:=r'.length;rw[dC]at aJ;exact sorted_ints pl.isList (intsAre_of r') ⋯ λout ns' a1 a2 a3=>fin aA out ns' a1 a2 a3
 . obtain⟨aA,r',pl,hz⟩:=I.tuple hq;have aJ:=r'.length;rw[dC]at aJ;exact tT pl (intsAre_of r') ⋯ λout ns' a1 a2 a3=>fin aA out ns' a1 a2 a3
theorem lP{K:Frag}{M:List Addr}{H:Hp}:∀ns:List Int,aH K M H (ns.map D.int) (ns.map V.int)
 | []=>.nil
 |n::ns=>.cons (.int n) (lP ns)
theorem BP(hK:z.K=X.K)(h:bF d=some l)(hi:aP l=some ns)(hl:ns.length<64):CallD X z (.builtin "sorted") [d] (.new ((bw ns).map .int)):=by
 refine⟨_,vA,λg σ As M H vs Q s p k=>?_⟩
 obtain⟨v,rfl,pv⟩:=p.one;have fin:∀q,H q=none->Q (.ref q) (upd H q (.lst ((bw ns).map V.int))):=λq hq=>k _ _ As (q::M) (s.aW hq) (az.aW hq) ⟨q,_,rfl,bP,λhA=>s.fresh hq (s.sub q hA),s.cI hq,aI,lP _⟩
 cases d with
 |lst m=>cases h;obtain⟨a,xs,rfl,e1,e2⟩:=pv.list;have:=aV e2 hi;subst this;exact⟨a,ns,rfl,.inl (bY.of e1),hl,fin⟩
 |tup m=>cases h;obtain⟨a,xs,rfl,e1,e2⟩:=pv.tup;have:=aV e2 hi;subst this;exact⟨a,ns,rfl,.inr (hK▸e1.sq),hl,fin⟩
 |fix m=>cases h;obtain⟨a,xs,rfl,e1,e2⟩:=pv.fix;have:=aV e2 hi;subst this;exact⟨a,ns,rfl,.inl (hK▸e1.sq),hl,fin⟩
 |_=>cases h
end
section
def Sf(X:Cx)(z:Z)(e:Expr)(g:G)(lo hi:Int)(g1:G):Prop:=
 ∀(ah:List (Addr×Obj)) (s:Shared) (σ:Sg) (As M:List Addr) (H:Hp) (Post:Value->Shared->Prop),L2.Inv X ah σ H s->S z g σ As M H->
  (∀r s1 H1 bf M1 t u v,L2.Inv X ah σ H1 s1->S z g1 σ bf M1 H1->az M H M1 H1->IsRange s1.heap r lo hi 1 t u v->Post (.ref r) s1)->wpAny (model X.prog X.w) X.A (eval e X.env) Post X.xe s
theorem dF.run(ha:dF X z es g rs g1)(I:L2.Inv X ah σ H s)(st:S z g σ As M H)
  (k:∀vs us s1 H1 bf M1,L2.Inv X ah σ H1 s1->Vals vs us->S z g1 σ bf M1 H1->az M H M1 H1->jG z σ M1 H1 rs vs->Post us s1):wpAny (model X.prog X.w) X.A (spliced (backTo pos (starEach es X.env))) Post X.xe s:=by
 obtain⟨t,q,kt⟩:=ha;exact cF (q pos ah s σ H (λvs H1=>∃bf M1,S z g1 σ bf M1 H1/\az M H M1 H1/\jG z σ M1 H1 rs vs) I (kt σ As M H _ st λvs H1 bf M1 s1 eu R=>⟨bf,M1,s1,eu,R⟩)) λus s1 ⟨vs,H1,I1,r1,bf,M1,q1,q2,q3⟩=>k vs us s1 H1 bf M1 I1 r1 q1 q2 q3
theorem rg_1(h:dF X z [a] g [.dat (.int j)] g1)(hg:Gl X "range")(hm:X.mg "range"=none)(hs:starEach [a] X.env=[(false,eval a X.env)]):Sf X z (.Call (.Name "range" p) [a] [] rp) g 0 j g1:=by
 intro ah s σ As M H Post I st k;refine Call_ (fF I hg hm boot_range (l9 (h.run I st λvs us s1 H1 bf M1 I1 r1 q1 q2 q3=>?_) hs rfl))
 cases q3 with
 |dat r R=>
  cases R;cases r;cases r1 with
  |cons r rr=>cases rr;obtain⟨t,rfl⟩:=r;exact call_range_1 (k _ _ H1 bf M1 _ _ _ (I1.kept λb o e=>b7 _ e) q1 q2 (IsRange.new ..))
theorem rg_2(h:dF X z [a,b] g [.dat (.int c),.dat (.int j)] g1)(hg:Gl X "range")(hm:X.mg "range"=none)(hs:starEach [a,b] X.env=[(false,eval a X.env),(false,eval b X.env)])(hs2:starEach [b] X.env=[(false,eval b X.env)]):Sf X z (.Call (.Name "range" p) [a,b] [] rp) g c j g1:=by
 intro ah s σ As M H Post I st k;refine Call_ (fF I hg hm boot_range (l9 (h.run I st λvs us s1 H1 bf M1 I1 r1 q1 q2 q3=>?_) (by rw[hs,hs2]) (by rw[hs2];rfl)))
 cases q3 with
 |dat r R=>
  cases R with
  |dat r' R=>
   cases R;cases r;cases r';cases r1 with
   |cons r rr=>
    cases rr with
    |cons r' rr=>cases rr;obtain⟨t,rfl⟩:=r;obtain⟨t',rfl⟩:=r';exact call_range_2 (k _ _ H1 bf M1 _ _ _ (I1.kept λb o e=>b7 _ e) q1 q2 (IsRange.new ..))
noncomputable def xX(lo:Int)(n:Nat):List V:=(List.range n).map λ(k:Nat)=>V.int (lo+(k:Int))
theorem BR{lo:Int}{n:Nat}{acc:Array Value}(h:ItemsOf (λi v=>∃t,v=Value.int (lo+(i:Int) * 1) t) acc n):Vals (xX lo n) acc.toList:=by
 have key:∀(m:Nat) (l:List Value) (o:Nat),l.length=m->(∀j v,l[j]?=some v->∃t,v=Value.int (lo+((o+j:Nat):Int)) t)->Vals ((List.range' o m).map λ(k:Nat)=>V.int (lo+(k:Int))) l:=by
  intro m
  induction m with
  |zero=>intro l o hl _;cases l with
   |nil=>exact .nil
   |cons _ _=>simp at hl
  |succ m ih=>
   intro l o hl hv;cases l with
   |nil=>simp at hl
   |cons v l=>
    rw[xI,List.map_cons];obtain⟨t,e⟩:=hv 0 v rfl;refine .cons ⟨t,by rw[e];rfl⟩ (ih l (o+1) (by simpa using hl) λj w hw=>?_)
    obtain⟨t',e'⟩:=hv (j+1) w (by simpa using hw)
    exact⟨t',by rw[e',show o+(j+1)=o+1+j by lia]⟩
 unfold xX;rw[pV];refine key n acc.toList 0 (by rw[nV];exact h.1) λj v hv=>?_
 obtain⟨t,e⟩:=h.2 j v (by rw[<- Array.getElem?_toList];exact hv)
 exact⟨t,by rw[e,BQ,Int.mul_one]⟩
theorem BV{K:Frag}{M:List Addr}{H:Hp}(lo:Int)(n:Nat):aH K M H (bU lo n) (xX lo n):=by
 unfold bU xX
 induction List.range n with
 |nil=>exact .nil
 |cons k l ih=>exact .cons (.int _) ih
theorem vB{e:Expr}{lo hi:Int}(h:Sf X z e g lo hi g1)(hc:X.calm=true)(hg:Gl X "list")(hm:X.mg "list"=none)(hs:starEach [e] X.env=[(false,eval e X.env)])(h1 : -(2 ^ 62)<=lo/\lo<2 ^ 62/\-(2 ^ 62)<=hi/\hi<2 ^ 62)(hl:(hi - lo).toNat<=16777216) :
  aB X z (.Call (.Name "list" lp) [e] [] pos) g (.new (bU lo (hi - lo).toNat)) g1:=by
 refine aB.of λah s σ As M H Post I st k=>?_
 refine Call_ (fF I hg hm (by rfl:bootBuiltins ("list":Str)=some (.type "list")) (l9 ?_ hs rfl))
 rw[hs];show wpAny _ _ (spliced ((false,eval e X.env)::[])) _ _ s;refine Calls.spliced_cons (h ah s σ As M H _ I st λr s1 H1 bf M1 t u v I1 q1 q2 hr=>Calls.spliced_nil ?_)
 have hn:Builtin.Range.rangeSize lo hi 1=(((hi - lo).toNat:Nat):Int):=by rw[rangeSize_one];split <;> lia
 refine call_list_range (I1.ok.hd hc) hr (small_one h1.1 h1.2.1 h1.2.2.1 h1.2.2.2) hn hl λh' tk acc' c' hk hS' hacc=>?_
 have hf:H1 s1⁻¹=none:=I1.hok.fresh (d5 _);have s2:=q1.aW (xs:=xX lo (hi - lo).toNat) hf;have vv:=BR hacc;have I2:L2.Inv X ah σ (upd H1 s1⁻¹ (.lst (xX lo (hi - lo).toNat))) { s1 with heap:=h',toks:=tk}:=
  I1.laid (t':=tk) hk (d5 _) (show eE X.prog X.w _ h' _ (.lst (xX lo (hi - lo).toNat))from⟨by rw[vv.length,nV,hacc.1];exact oW hl,acc'.toList,c',vv,by simpa using hS'⟩)
 exact k (.ref s1⁻¹) _ _ _ bf (s1⁻¹::M1) I2 rfl s2 (q2.trans (az.aW hf)) ⟨_,_,rfl,bP,λhA=>q1.fresh hf (q1.sub _ hA),q1.cI hf,aI,BV _ _⟩
end
section
theorem ku{ns:List Int}{aA:List Value}(r:Vals (ns.map V.int) aA){i:Nat}{v:Value}(h:aA[i]?=some v):∃t,v=.int (ns.getD i 0) t:=by
 have hi:i<ns.length:=by have:=(b0.mp h).1;have e:=r.length;rw[dC]at e;lia
 obtain⟨w,e1,e2⟩:=r.get (i:=i) (x:=V.int ns[i]) (by simp[hi])
 rw[h]at e1;cases e1;obtain⟨t,e⟩:=e2;exact⟨t,by rw[e];simp[List.getD,hi]⟩
theorem Gf(hc:X.calm=true):dO X (.builtin "sum") (λxs H Q=>∃(p:Addr) (ns:List Int),xs=[.ref p]/\(bY X.K H p (ns.map V.int)\/fy X.K H p (ns.map V.int))/\Q (.int ns.sum) H):=by
 intro ah s σ H xs us Q I r h;obtain⟨p,ns,rfl,hp,q⟩:=h;obtain⟨u,rfl,rx⟩:=vals1 r;cases rx;have hh:X.A.in1.handled=none:=I.ok.hd hc;have fin:∀(o:Obj) (s':Shared) (t':Tok) (aA:List Value),Vals (ns.map V.int) aA->Moved [s⁻¹] (λa b=>b=a) { s with heap:=s.heap.push o} s'->EP X ah σ Q (.int (preSum (λi=>ns.getD i 0) aA.toArray.size) t') s':=by
  intro o s' t' aA rv hm;obtain⟨h',g',d',tk',os'⟩:=s';obtain⟨m1,m2,m3,m4,m5⟩:=hm;have e1:g'=s.gens:=m2;have e2:d'=s.drawn:=m3;have e3:os'=s.os:=m4;subst e1 e2 e3;have aJ:aA.length=ns.length:=by rw[<- rv.length,dC]
  have I1:L2.Inv X ah σ H { s with heap:=h',toks:=tk'}:=I.kept λb ob e=>m1 b ob (λhm=>by
   have:b=s⁻¹:=by simpa using hm
   exact absurd (eD e) (by rw[this];exact mB _)) (b7 _ e)
  refine⟨.int ns.sum,H,I1,⟨t',?_⟩,q⟩;rw[preSum_getD,b6,aJ,B1]
 rcases hp with hp |hp
 .
  obtain⟨aA,rv,pl,hz⟩:=I.list hp;have hlt:p<s⁻¹:=by obtain⟨_,e,_⟩:=pl.isList;exact eD e
  refine call_sum_walkAnyS (sR pl.isList ?_);refine⟨s⁻¹,_,_,_,_,_,_,λi=>ns.getD i 0,rfl,(CD (A:=X.A.in1) hh s⁻¹ p (hZ hlt) aA.toArray).toS,⟨⟨_,eA _ rfl,rfl,rfl⟩,pl.isList.push _⟩,λb hb=>?_,λi v hv=>ku rv (by simpa using hv),λs' t' hm=>fin _ s' t' aA rv hm⟩
  simp only[dS,l8,AB]at hb;rcases hb with rfl |rfl
  . exact o6 (l5 _) (oC _ _).symm
  . exact o6 (tI hlt) (oC _ _).symm
 .
  obtain⟨aA,rv,pl,hz⟩:=I.tuple hp;have hlt:p<s⁻¹:=by obtain⟨_,e,_⟩:=pl;exact eD e
  have Gg:s.heap.IsTuple p aA.toArray:=pl;refine call_sum_walkAnyS (t8 Gg ?_);refine⟨s⁻¹,_,_,_,_,_,_,λi=>ns.getD i 0,rfl,(Walks.tuple (A:=X.A.in1) hh s⁻¹ p (hZ hlt) aA.toArray).toS,⟨⟨_,eA _ rfl,rfl,rfl⟩,?_⟩,λb hb=>?_,λi v hv=>ku rv (by simpa using hv),λs' t' hm=>fin _ s' t' aA rv hm⟩
  . exact IsTup.keeps Gg λb o e=>b7 _ e
  .
   simp only[dS,l8,AB]at hb;rcases hb with rfl |rfl
   . exact o6 (l5 _) (oC _ _).symm
   . exact o6 (tI hlt) (oC _ _).symm
theorem Sh(hc:X.calm=true)(hK:z.K=X.K)(h:bF d=some l)(hi:aP l=some ns):CallD X z (.builtin "sum") [d] (.dat (.int ns.sum)):=by
 refine⟨_,Gf hc,λg σ As M H vs Q s p k=>?_⟩
 obtain⟨v,rfl,pv⟩:=p.one;have fin:Q (.int ns.sum) H:=k _ _ As M s (az.refl _ _) (.int _);cases d with
 |lst m=>cases h;obtain⟨a,xs,rfl,e1,e2⟩:=pv.list;have:=aV e2 hi;subst this;exact⟨a,ns,rfl,.inl (bY.of e1),fin⟩
 |tup m=>cases h;obtain⟨a,xs,rfl,e1,e2⟩:=pv.tup;have:=aV e2 hi;subst this;exact⟨a,ns,rfl,.inr (hK▸e1.sq),fin⟩
 |fix m=>cases h;obtain⟨a,xs,rfl,e1,e2⟩:=pv.fix;have:=aV e2 hi;subst this;exact⟨a,ns,rfl,.inl (hK▸e1.sq),fin⟩
 |_=>cases h
end
noncomputable def veM:List Value:=[.type "ValueError",.type "Exception",.type "BaseException",.type "object"]
abbrev BW(K:Frag)(C:Addr):Prop:=PySem.W.excIn K C veM "ValueError.__new__"=true
open PySem PySem.W PyProof.Rows
noncomputable def g8{α:Type}(lt:Nat->Nat->Bool):KasT α->α
 |.ret a=>a
 |.ask i j k=>g8 lt (k (lt i j))
theorem fC{α β:Type}(lt:Nat->Nat->Bool)(f:α->KasT β):∀t:KasT α,g8 lt (t.bind f)=g8 lt (f (g8 lt t))
 |.ret _=>rfl
 |.ask i j k=>fC lt f (k (lt i j))
structure gK(α:Type) where
 lt:α->α->Bool
 irr:∀a,lt a a=false
 tr:∀a b c,lt a b=true->lt b c=true->lt a c=true
 tot:∀a b,lt a b=false->lt b a=false->a=b
namespace gK
variable{α:Type}(O:gK α)
def le(a b:α):Prop:=O.lt b a=false
variable{O}
theorem le_refl(a:α):O.le a a:=O.irr a
theorem le_of_lt(h:O.lt a b=true):O.le a b:=by
 unfold le;cases e:O.lt b a
 . rfl
 . have:=O.tr _ _ _ h e;rw[O.irr]at this;cases this
theorem rL(h1:O.le a b)(h2:O.le b c):O.le a c:=by
 unfold le at *;cases e:O.lt c a with
 |false=>rfl
 |true=>
  exfalso;cases e1:O.lt a b with
  |true=>have:=O.tr _ _ _ e e1;rw[h2]at this;cases this
  |false=>have hab:=O.tot a b e1 h1;subst hab;rw[h2]at e;cases e
theorem zC(h1:O.le a b)(h2:O.le b a):a=b:=O.tot a b h2 h1
end gK
section
variable{α:Type}
noncomputable def ez(key:Nat->α)(p:Array Nat)(i:Nat):α:=key (p.getD i 0)
def jr(O:gK α)(key:Nat->α)(p:Array Nat)(n:Nat):Prop:=∀i j,i<=j->j<n->O.le (ez key p i) (ez key p j)
def iB(O:gK α)(key:Nat->α)(p:Array Nat)(n:Nat):Prop:=∀i j,i<=j->j<n->O.le (ez key p j) (ez key p i)
noncomputable def nX(O:gK α)(key:Nat->α)(i j:Nat):Bool:=O.lt (key i) (key j)
theorem getD_some{p q:Array Nat}{i j:Nat}(h:p[i]?=q[j]?):p.getD i 0=q.getD j 0:=by rw[wP,wP,h]
theorem nY{p:Array Nat}{i j:Nat}(hj:j<=p.size)(k:Nat):ez key (kas_rev p i j) k=if i<=k/\k<j then ez key p (i+j - 1 - k)else ez key p k:=by
 have e:=getElem?_mirror_all (i:=i) hj k;unfold ez kas_rev;split
 . rename_i h;rw[eP h]at e;rw[getD_some e]
 . rename_i h;rw[eQ h]at e;rw[getD_some e]
theorem Lf{p:Array Nat}{src d:Nat}(hs:src<p.size)(hd:d<=src)(k:Nat):ez key (bubble p src d) k=if k=src - d then ez key p src else if src - d<k/\k<=src then ez key p (k - 1)else ez key p k:=by
 have e:=getElem?_bubble hs d hd k;unfold ez;by_cases h1:k=src - d
 . rw[eP h1]at e ⊢;rw[getD_some e]
 .
  rw[eQ h1]at e ⊢
  by_cases h2:src - d<k/\k<=src
  . rw[eP h2]at e ⊢;rw[getD_some e]
  . rw[eQ h2]at e ⊢;rw[getD_some e]
theorem jr.ext(h:jr O key p n)(hl:O.lt (ez key p n) (ez key p (n - 1))=false)(h1:1<=n):jr O key p (n+1):=by
 intro i j hij hj;by_cases e:j<n
 . exact h i j hij e
 .
  have:j=n:=by lia
  subst this;by_cases e2:i=j
  . subst e2;exact gK.le_refl _
  . exact gK.rL (h i (j - 1) ⋯ ⋯) hl
theorem xY:∀(f n:Nat),1<=n->jr O key p n->∃m,g8 (nX O key) (kas_asc p f n)=m/\n<=m/\m<=n+f/\jr O key p m/\(m<n+f->O.lt (ez key p m) (ez key p (m - 1))=true)
 | 0,n,_,h=>⟨n,rfl,d5 _,d5 _,h,λz=>absurd z (mB _)⟩
 |f+1,n,h1,h=>by
  unfold kas_asc;show ∃m,g8 (nX O key) (if nX O key (p.getD n 0) (p.getD (n - 1) 0)=true then KasT.ret n else kas_asc p f (n+1))=m/\_
  cases e:nX O key (p.getD n 0) (p.getD (n - 1) 0)with
  |true=>exact⟨n,rfl,d5 _,by lia,h,λ_=>e⟩
  |false=>obtain⟨m,q1,q2,q3,q4,q5⟩:=xY f (n+1) ⋯ (h.ext e h1);exact⟨m,q1,by lia,by lia,q4,λz=>q5 ⋯⟩
theorem iB.ext(h:iB O key p n)(hl:O.le (ez key p n) (ez key p (n - 1)))(h1:1<=n):iB O key p (n+1):=by
 intro i j hij hj;by_cases e:j<n
 . exact h i j hij e
 .
  have:j=n:=by lia
  subst this;by_cases e2:i=j
  . subst e2;exact gK.le_refl _
  . exact gK.rL hl (h i (j - 1) ⋯ ⋯)
theorem iB.Si(h:iB O key p n)(hk:∀k,ez key p' k=ez key p k):iB O key p' n:=λi j a b=>by rw[hk,hk];exact h i j a b
def Xx(key:Nat->α)(p:Array Nat)(n q:Nat):Prop:=q+1<=n/\∀k,n - (q+1)<=k->k<n->ez key p k=ez key p (n - 1)
theorem zD(h:Xx key p n q)(hz:n<=p.size)(k:Nat):ez key (kas_rev p (n - (q+1)) n) k=ez key p k:=by
 rw[nY hz];split
 . rename_i hk;have hq:=h.1;rw[h.2 k hk.1 hk.2,h.2 (n - (q+1)+n - 1 - k) ⋯ ⋯]
 . rfl
theorem nZ:∀(f:Nat) (p:Array Nat) (n q:Nat),1<=n->n+f<=p.size->iB O key p n->Xx key p n q->
  ∃p' m q',g8 (nX O key) (kas_desc f p n q)=(p',m,q')/\p'.Perm p/\n<=m/\m<=n+f/\iB O key p' m/\Xx key p' m q'
 | 0,p,n,q,_,_,h,hq=>⟨p,n,q,rfl,A7 _,d5 _,d5 _,h,hq⟩
 |f+1,p,n,q,h1,hz,h,hq=>by
  unfold kas_desc;show ∃p' m q',g8 (nX O key) (if nX O key (p.getD n 0) (p.getD (n - 1) 0)=true then (if q > 0 then kas_desc f (kas_rev p (n - (q+1)) n) (n+1) 0 else kas_desc f p (n+1) 0)
   else .ask (p.getD (n - 1) 0) (p.getD n 0) λd=>if d=true then .ret (p,n,q)else kas_desc f p (n+1) (q+1))=(p',m,q')/\_
  cases e:nX O key (p.getD n 0) (p.getD (n - 1) 0)with
  |true=>
   rw[eP rfl];have hl:O.le (ez key p n) (ez key p (n - 1)):=gK.le_of_lt e;have one:∀p':Array Nat,Xx key p' (n+1) 0:=λp'=>⟨by lia,λk a b=>by have:k=n:=⋯;subst this;rfl⟩
   by_cases hq0:q > 0
   .
    rw[eP hq0];have hk:=zD hq (by lia:n<=p.size)
    have hF:iB O key (kas_rev p (n - (q+1)) n) (n+1):=(h.ext hl h1).Si hk;obtain⟨p',m,q',r1,r2,r3,r4,r5,r6⟩:=nZ f (kas_rev p (n - (q+1)) n) (n+1) 0 ⋯ (by rw[kas_rev_size];lia) hF (one _)
    exact⟨p',m,q',r1,r2.trans (mirror_perm _ _ _ _),by lia,by lia,r5,r6⟩
   . rw[eQ hq0];obtain⟨p',m,q',r1,r2,r3,r4,r5,r6⟩:=nZ f p (n+1) 0 ⋯ ⋯ (h.ext hl h1) (one _);exact⟨p',m,q',r1,r2,by lia,by lia,r5,r6⟩
  |false=>
   rw[eQ hU];show ∃p' m q',g8 (nX O key) (if nX O key (p.getD (n - 1) 0) (p.getD n 0)=true then .ret (p,n,q)else kas_desc f p (n+1) (q+1))=(p',m,q')/\_
   cases e2:nX O key (p.getD (n - 1) 0) (p.getD n 0)with
   |true=>exact⟨p,n,q,rfl,A7 _,d5 _,by lia,h,hq⟩
   |false=>
    rw[eQ hU];have he:ez key p n=ez key p (n - 1):=O.tot _ _ e e2;have hq':Xx key p (n+1) (q+1):=⟨by have:=hq.1;lia,λk a b=>by
     show ez key p k=ez key p n;by_cases hk:k=n
     . subst hk;rfl
     .
      rw[he];exact hq.2 k ⋯ ⋯⟩
    obtain⟨p',m,q',r1,r2,r3,r4,r5,r6⟩:=nZ f p (n+1) (q+1) ⋯ ⋯ (h.ext (by rw[he];exact gK.le_refl _) h1) hq'
    exact⟨p',m,q',r1,r2,by lia,by lia,r5,r6⟩
theorem Gh(h:iB O key p n)(hz:n<=p.size):jr O key (kas_rev p 0 n) n:=λi j a b=>by
 rw[nY hz,nY hz,eP ⟨by lia,by lia⟩,eP ⟨by lia,by lia⟩]
 exact h _ _ ⋯ ⋯
theorem vC(h1:1<=n)(hn:n<=nrem)(hz:nrem<=p.size)(h:iB O key p n):∃m p',g8 (nX O key) (kas_tail3 n nrem p)=(m,p')/\p'.Perm p/\1<=m/\m<=nrem/\jr O key p' m:=by unfold kas_tail3;rw[fC];obtain⟨m,q1,q2,q3,q4,_⟩:=xY (O:=O) (key:=key) (p:=kas_rev p 0 n) (nrem - n) n h1 (Gh h ⋯);rw[q1];exact⟨m,_,rfl,mirror_perm _ _ _ _,by lia,by lia,q4⟩
theorem mV(h1:1<=n)(hn:n+1<=nrem)(hz:nrem<=p.size)(h:iB O key p (n+1)):∃m p',g8 (nX O key) (kas_descPart n nrem p)=(m,p')/\p'.Perm p/\1<=m/\m<=nrem/\jr O key p' m:=by
 unfold kas_descPart;rw[fC];obtain⟨p',m,q',r1,r2,r3,r4,r5,r6⟩:=nZ (O:=O) (key:=key) (nrem - (n+1)) p (n+1) 0 ⋯ ⋯ h ⟨by lia,λk a b=>by have:k=n:=⋯;subst this;rfl⟩
 rw[r1];dsimp only;have hs:p'.size=p.size:=r2.size_eq;by_cases hq:q' > 0
 .
  rw[eP hq];have hk:=zD r6 (by lia:m<=p'.size)
  obtain⟨m',p2,s1,s2,s3,s4,s5⟩:=vC (nrem:=nrem) ⋯ ⋯ (by rw[kas_rev_size];lia) (r5.Si hk)
  exact⟨m',p2,s1,(s2.trans (mirror_perm _ _ _ _)).trans r2,s3,s4,s5⟩
 . rw[eQ hq];obtain⟨m',p2,s1,s2,s3,s4,s5⟩:=vC (nrem:=nrem) ⋯ ⋯ ⋯ r5;exact⟨m',p2,s1,s2.trans r2,s3,s4,s5⟩
theorem Gi(h1:1<=n)(hz:n<=p.size):∃m p',g8 (nX O key) (kas_count n p)=(m,p')/\p'.Perm p/\1<=m/\m<=n/\jr O key p' m:=by
 unfold kas_count;rw[fC];obtain⟨m,q1,q2,q3,q4,q5⟩:=xY (O:=O) (key:=key) (p:=p) (n - 1) 1 (d5 _) (λi j a b=>by have e1:i=0:=⋯;have e2:j=0:=⋯;subst e1;subst e2;exact gK.le_refl _)
 rw[q1];by_cases e1:(m==n)=true
 . rw[eP e1];exact⟨m,p,rfl,A7 _,q2,by lia,q4⟩
 .
  rw[eQ e1];have hm:m<n:=by
   have:m≠n:=λz=>e1 (by rw[z];exact AQ _)
   lia
  have hlt:=q5 ⋯;by_cases e2:m > 1
  .
   rw[eP e2];show ∃m' p',g8 (nX O key) (if nX O key (p.getD 0 0) (p.getD (m - 1) 0)=true then KasT.ret (m,p)else kas_descPart m n (kas_rev p 0 m))=(m',p')/\_
   cases e3:nX O key (p.getD 0 0) (p.getD (m - 1) 0)with
   |true=>exact⟨m,p,rfl,A7 _,q2,by lia,q4⟩
   |false=>
    rw[eQ hU];have Zr:∀k,k<m->ez key p k=ez key p (m - 1):=λk hk=>by
     refine gK.zC (O:=O) (q4 k (m - 1) ⋯ ⋯) ?_;exact gK.rL (show O.le (ez key p (m - 1)) (ez key p 0)from e3) (q4 0 k ⋯ hk)
    have hk:∀k,ez key (kas_rev p 0 m) k=ez key p k:=λk=>by
     rw[nY ⋯];split
     . rw[Zr _ ⋯,Zr k ⋯]
     . rfl
    have hF:iB O key (kas_rev p 0 m) (m+1):=by
     refine iB.Si (p:=p) (iB.ext (λi j a b=>?_) (gK.le_of_lt hlt) ⋯) hk
     rw[Zr i ⋯,Zr j b];exact gK.le_refl _
    obtain⟨m',p2,s1,s2,s3,s4,s5⟩:=mV (O:=O) (key:=key) (p:=kas_rev p 0 m) q2 (by lia:m+1<=n) (by rw[kas_rev_size];exact hz) hF
    exact⟨m',p2,s1,s2.trans (mirror_perm _ _ _ _),s3,s4,s5⟩
  .
   rw[eQ e2];have hF:iB O key p (m+1):=iB.ext (λi j a b=>by have e1:i=0:=⋯;have e2:j=0:=⋯;subst e1;subst e2;exact gK.le_refl _) (gK.le_of_lt hlt) q2
   exact mV q2 ⋯ hz hF
theorem pG(hR:jr O key p k):∀(f l r:Nat),l<=r->r<=k->r - l<=f->(∀i,i<l->O.le (ez key p i) (ez key p k))->(∀i,r<=i->i<k->O.lt (ez key p k) (ez key p i)=true)->
  ∃m,g8 (nX O key) (kas_place p k f l r)=m/\m<=k/\(∀i,i<m->O.le (ez key p i) (ez key p k))/\∀i,m<=i->i<k->O.lt (ez key p k) (ez key p i)=true
 | 0,l,r,h1,h2,h3,h4,h5=>⟨l,rfl,by lia,h4,λi a b=>h5 i ⋯ b⟩
 |f+1,l,r,h1,h2,h3,h4,h5=>by
  unfold kas_place;by_cases e:l ≥ r
  . rw[eP e];exact⟨l,rfl,by lia,h4,λi a b=>h5 i ⋯ b⟩
  .
   rw[eQ e];show ∃m,g8 (nX O key) (if nX O key (p.getD k 0) (p.getD ((l+r) / 2) 0)=true then kas_place p k f l ((l+r) / 2)else kas_place p k f ((l+r) / 2+1) r)=m/\_
   cases e2:nX O key (p.getD k 0) (p.getD ((l+r) / 2) 0)with
   |true=>
    rw[eP rfl];refine pG hR f l ((l+r) / 2) ⋯ ⋯ ⋯ h4 λi a b=>?_
    by_cases hi:r<=i
    . exact h5 i hi b
    .
     have q:O.le (ez key p ((l+r) / 2)) (ez key p i):=hR _ _ a b;cases e3:O.lt (ez key p k) (ez key p i)with
     |true=>rfl
     |false=>
      have:=gK.rL q (show O.le (ez key p i) (ez key p k)from e3)
      have Vn:O.lt (ez key p k) (ez key p ((l+r) / 2))=true:=e2;unfold gK.le at this;rw[this]at Vn;cases Vn
   |false=>
    rw[eQ hU];refine pG hR f ((l+r) / 2+1) r ⋯ h2 ⋯ (λi a=>?_) h5
    exact gK.rL (hR i ((l+r) / 2) ⋯ ⋯) e2
theorem Gj:∀(f:Nat) (p:Array Nat) (k:Nat),k+f<=p.size->jr O key p k->∃p',g8 (nX O key) (kas_bin f p k)=p'/\p'.Perm p/\jr O key p' (k+f)
 | 0,p,k,_,h=>⟨p,rfl,A7 _,h⟩
 |f+1,p,k,hz,h=>by
  unfold kas_bin;rw[fC];obtain⟨l,q1,q2,q3,q4⟩:=pG h k 0 k (u4 _) (d5 _) ⋯ (λi a=>absurd a (AG _)) (λi a b=>absurd (Nat.lt_of_le_of_lt a b) (mB _))
  rw[q1];have hk:=λi=>Lf (key:=key) (p:=p) (src:=k) (d:=k - l) ⋯ ⋯ i
  have hR:jr O key (bubble p k (k - l)) (k+1):=λi j a b=>by
   rw[hk,hk];have e:k - (k - l)=l:=by lia
   rw[e];by_cases i1:i=l
   .
    rw[eP i1];by_cases j1:j=l
    . rw[eP j1];exact gK.le_refl _
    .
     rw[eQ j1,eP ⟨by lia,by lia⟩]
     exact gK.le_of_lt (q4 (j - 1) ⋯ ⋯)
   .
    rw[eQ i1];by_cases i2:l<i/\i<=k
    .
     rw[eP i2,eQ ⋯,eP ⟨by lia,by lia⟩]
     exact h _ _ ⋯ ⋯
    .
     rw[eQ i2];by_cases j1:j=l
     . rw[eP j1];exact q3 i ⋯
     .
      rw[eQ j1];by_cases j2:l<j/\j<=k
      . rw[eP j2];exact h _ _ ⋯ ⋯
      . rw[eQ j2];exact h _ _ a ⋯
  obtain⟨p',s1,s2,s3⟩:=Gj f (bubble p k (k - l)) (k+1) (by rw[bubble_size];lia) hR
  exact⟨p',s1,s2.trans (bubble_perm _ _ _),by rw[show k+(f+1)=k+1+f by lia];exact s3⟩
theorem Lg(h1:1<=n):∃p,g8 (nX O key) (kas_sort n)=p/\p.Perm (List.range n).toArray/\jr O key p n:=by
 unfold kas_sort;rw[fC];obtain⟨m,p,q1,q2,q3,q4,q5⟩:=Gi (O:=O) (key:=key) (p:=(List.range n).toArray) h1 ⋯;rw[q1];dsimp only;have hs:p.size=n:=by rw[q2.size_eq];simp
 have e:max m 1=m:=by lia
 rw[e];by_cases hm:m<n
 . rw[eP hm];obtain⟨p',s1,s2,s3⟩:=Gj (O:=O) (key:=key) (n - m) p m ⋯ q5;exact⟨p',s1,s2.trans q2,by rw[show m+(n - m)=n by lia]at s3;exact s3⟩
 .
  rw[eQ hm];have:m=n:=by lia
  subst this;exact⟨p,rfl,q2,q5⟩
end
noncomputable def zE{α:Type}(n:Nat)(P:α->Prop):KasT α->Prop
 |.ret a=>P a
 |.ask i j k=>i<n/\j<n/\∀b,zE n P (k b)
theorem zE.bind{α β:Type}{n:Nat}{P:α->Prop}{Q:β->Prop}{f:α->KasT β}:∀{t:KasT α},zE n P t->(∀a,P a->zE n Q (f a))->zE n Q (t.bind f)
 |.ret a,h,hf=>hf a h
 |.ask _ _ _,h,hf=>⟨h.1,h.2.1,λb=>(h.2.2 b).bind hf⟩
theorem vD{α:Type}{n:Nat}{P:α->Prop}{lt:Nat->Nat->Bool}{cmp:Nat->Nat->(Bool->Shared->Prop)->Shared->Prop}{Q:α->Shared->Prop}{s:Shared}(hc:∀i j C,i<n->j<n->C (lt i j) s->cmp i j C s):∀t:KasT α,zE n P t->Q (g8 lt t) s->t.kasWp cmp Q s
 |.ret _,_,h=>h
 |.ask i j k,ok,h=>hc i j _ ok.1 ok.2.1 (vD hc (k (lt i j)) (ok.2.2 _) h)
def pH(n:Nat)(p:Array Nat):Prop:=0<n/\∀x∈p.toList,x<n
theorem pH.at(h:pH n p)(i:Nat):p.getD i 0<n:=by
 rw[wP];cases e:p[i]? with
 |none=>exact h.1
 |some x=>exact h.2 x (by rw[Array.getElem?_eq_some_iff]at e;obtain⟨hi,rfl⟩:=e;simp)
theorem pH.perm(h:pH n p)(e:p'.Perm p):pH n p':=⟨h.1,λx hx=>h.2 x ((wS.mp e).mem_iff.mp hx)⟩
theorem pH.rev(h:pH n p)(i j:Nat):pH n (kas_rev p i j):=h.perm (mirror_perm _ _ _ _)
theorem pH.bub(h:pH n p)(i j:Nat):pH n (bubble p i j):=h.perm (bubble_perm _ _ _)
section
theorem xZ(h:pH N p):∀f n,zE N (λ_=>True) (kas_asc p f n)
 | 0,_=>trivial
 |f+1,n=>⟨h.at _,h.at _,λb=>by cases b <;> first |exact trivial |exact xZ h f (n+1)⟩
theorem n5:∀f p n q,pH N p->zE N (λr=>pH N r.1) (kas_desc f p n q)
 | 0,_,_,_,h=>h
 |f+1,p,n,q,h=>by
  refine⟨h.at _,h.at _,λb=>?_⟩
  dsimp only;cases b with
  |true=>
   rw[eP rfl];by_cases hq:q > 0
   . rw[eP hq];exact n5 f _ _ _ (h.rev _ _)
   . rw[eQ hq];exact n5 f _ _ _ h
  |false=>
   rw[eQ hU];refine⟨h.at _,h.at _,λd=>?_⟩
   cases d with
   |true=>exact h
   |false=>exact n5 f _ _ _ h
theorem vE{p:Array Nat}{n nrem:Nat}(h:pH N p):zE N (λr=>pH N r.2) (kas_tail3 n nrem p):=(xZ (h.rev 0 n) _ _).bind λ_ _=>h.rev 0 n
theorem mW{p:Array Nat}{n nrem:Nat}(h:pH N p):zE N (λr=>pH N r.2) (kas_descPart n nrem p):=by
 refine (n5 _ _ _ _ h).bind λr hr=>?_
 by_cases hq:r.2.2 > 0
 . rw[eP hq];exact vE (pH.rev hr _ _)
 . rw[eQ hq];exact vE hr
theorem Gk{p:Array Nat}{n:Nat}(h:pH N p):zE N (λr=>pH N r.2) (kas_count n p):=by
 refine (xZ h _ _).bind λm _=>?_
 by_cases e1:(m==n)=true
 . rw[eP e1];exact h
 .
  rw[eQ e1];by_cases e2:m > 1
  .
   rw[eP e2];refine⟨h.at _,h.at _,λb=>?_⟩
   cases b with
   |true=>exact h
   |false=>exact mW (h.rev _ _)
  . rw[eQ e2];exact mW h
theorem pI(h:pH N p):∀f l r,zE N (λ_=>True) (kas_place p k f l r)
 | 0,_,_=>trivial
 |f+1,l,r=>by
  unfold kas_place;by_cases e:l ≥ r
  . rw[eP e];exact trivial
  .
   rw[eQ e];refine⟨h.at _,h.at _,λb=>?_⟩
   cases b with
   |true=>exact pI h f _ _
   |false=>exact pI h f _ _
theorem Gm:∀f p k,pH N p->zE N (λ_=>True) (kas_bin f p k)
 | 0,_,_,_=>trivial
 |f+1,p,k,h=>(pI h _ _ _).bind λl _=>Gm f _ _ (h.bub _ _)
theorem Lh{n:Nat}(h:0<n):zE n (λ_=>True) (kas_sort n):=by
 refine (Gk (p:=(List.range n).toArray) ⟨h,λx hx=>by simpa using hx⟩).bind λr hr=>?_
 by_cases e:r.1<n
 . rw[eP e];exact Gm _ _ _ hr
 . rw[eQ e];exact trivial
end
open L2 PySem.W
section
variable{α:Type}{key:Nat->α}
noncomputable def dc(s:Shared)(a:Addr)(vs:List Value):Shared:={ s with heap:=((s.heap.update a (Obj.mapSeq λ_=>#[])).push (seqObj "tuple" vs.toArray 0)).push (seqObj "list" #[] 0)}
theorem mX(hb:b≠a)(h:s.heap.get? b=some o):(dc s a vs).heap.get? b=some o:=
 b7 _ (b7 _ ((i9 s.heap _ hb.symm).trans h))
theorem vF(ho:s.heap.get? a=some (seqObj "list" vs.toArray n))(h2:2<=vs.length)(h64:vs.length<64)
  (hk:∀Q:SortKind->Shared->Prop,Q κ (dc s a vs)->wpAny (model prog w) A (keyKind' vs.toArray) Q (λ_ _=>False) (dc s a vs))
  (hc:∀i j C,i<vs.length->j<vs.length->C (nX O key i j) (dc s a vs)->kas_ask prog w A κ vs i j C (dc s a vs))
  (h:∀p:Array Nat,p.Perm (List.range vs.length).toArray->jr O key p vs.length->P (.done (.ret .none)) { s with heap:=sortedHeap s.heap a vs (p.toList.map λi=>vs.getD i Value.none).toArray}) :
  wpAny (model prog w) A (Builtin.«list.sort» ⟨[.ref a],[]⟩) P E s:=by
 obtain⟨e1,Xy⟩:∃e1,(s.heap.update a (Obj.mapSeq λ_=>#[])).get? a=some (seqObj "list" #[] e1):=⟨_,get?_update_seq ho (λ_=>#[])⟩
 have Xz:(dc s a vs).heap.get? a=some (seqObj "list" #[] e1):=b7 _ (b7 _ Xy);have hz:vs.length<=sizeLine:=(by rw[mI];lia)
 rw[list_sort_plain];refine a9 (listItems_at ho rfl (a9 (listUpdate_at ho rfl (a9 (seqEpoch_at Xy rfl (a9 (wpAny_newTuple (a9 (A6 (kA ?_) (u4 _))) (by show vs.length<=_;exact hz))))) (by simpa using hz) (u4 _))))
 show wpAny (model prog w) A _ P E (dc s a vs);have hn : ¬ vs.toArray.size<2:=by rw[b6];lia
 dsimp only;rw[eQ hn,eQ hn];refine a9 (mE (hk (λk s0=>k=κ/\s0=dc s a vs) ⟨rfl,rfl⟩) ?_ λ_ _ z=>z.elim)
 rintro _ _ ⟨rfl,rfl⟩;obtain⟨p0,q1,q2,q3⟩:=Lg (O:=O) (key:=key) (n:=vs.length) ⋯;refine a9 (mE (kat_run (ks:=vs) (vs:=vs) (E:=E) (Q:=λst' s'=>s'=dc s a vs/\failedOf st'=none/\(arrOf st').map (·.2)=(p0.toList.map λi=>vs.getD i Value.none).toArray) (G:=λp s'=>s'=dc s a vs/\p=p0)
  rfl h2 h64 (λp st' s' _ har hf hg=>?_) (vD hc _ (Lh ⋯) ⟨rfl,q1⟩)) ?_ λ_ _ z=>z)
 . obtain⟨rfl,rfl⟩:=hg;exact⟨rfl,hf,kat_snds rfl har⟩
 .
  rintro⟨⟨⟩,st'⟩ s' ⟨rfl,hf,hout⟩;dsimp only at hf hout ⊢
  have aJ:(p0.toList.map λi=>vs.getD i Value.none).length=vs.length:=by rw[dC,nV,q2.size_eq];simp
  rw[hout];refine a9 (seqEpoch_at Xz rfl (a9 (listUpdate_at Xz rfl ?_ (u4 _) (by show (List.toArray _).size<=_;rw[b6,aJ];lia))))
  rw[hf];simp only[bne_self_eq_false,AA,Co];exact d6 (h p0 q2 q3)
theorem zF{β:Type}:∀l:List β,(l.zip l).map (·.2)=l
 | []=>rfl
 |x::l=>by rw[oD,List.map_cons,zF l]
theorem vG(ho:s.heap.get? a=some (seqObj "list" vs.toArray n))(h2:vs.length<2)
  (h:P (.done (.ret .none)) { s with heap:=sortedHeap s.heap a vs vs.toArray}):wpAny (model prog w) A (Builtin.«list.sort» ⟨[.ref a],[]⟩) P E s:=by
 obtain⟨e1,Xy⟩:∃e1,(s.heap.update a (Obj.mapSeq λ_=>#[])).get? a=some (seqObj "list" #[] e1):=⟨_,get?_update_seq ho (λ_=>#[])⟩
 have Xz:(dc s a vs).heap.get? a=some (seqObj "list" #[] e1):=b7 _ (b7 _ Xy);have hz:vs.length<=sizeLine:=(by rw[mI];lia)
 rw[list_sort_plain];refine a9 (listItems_at ho rfl (a9 (listUpdate_at ho rfl (a9 (seqEpoch_at Xy rfl (a9 (wpAny_newTuple (a9 (A6 (kA ?_) (u4 _))) (by show vs.length<=_;exact hz))))) (by simpa using hz) (u4 _))))
 show wpAny (model prog w) A _ P E (dc s a vs);have hn:vs.toArray.size<2:=by rw[b6];lia
 dsimp only;rw[eP hn,eP hn];refine a9 (d6 ?_);rw[StateT.run_pure];refine a9 (d6 ?_);dsimp only;have hout:(arrOf (SortSt.mk' general' (vs.toArray.zip vs.toArray) #[] 7 none)).map (·.2)=vs.toArray:=by show (vs.toArray.zip vs.toArray).map (·.2)=vs.toArray;apply Array.toList_inj.mp;simp only[Array.toList_map,Array.toList_zip,List.toList_toArray];exact zF vs
 rw[hout];refine a9 (seqEpoch_at Xz rfl (a9 (listUpdate_at Xz rfl ?_ (u4 _) (by show vs.toArray.size<=_;rw[b6];lia))))
 show wpAny _ _ (if (e1 != e1)=true then _ else _) _ _ _
 rw[eQ ⋯];exact d6 h
noncomputable def yc(h:Heap)(vs:List Value):Heap:=((h.push (seqObj "list" #[] 0)).update h.objs.size (Obj.mapSeq (· ++ vs.toArray))).push (seqObj "list" vs.toArray 0)
theorem rM(h:Heap)(vs:List Value):((h.push (seqObj "list" #[] 0)).update h.objs.size (Obj.mapSeq (· ++ vs.toArray))).objs.size=h.objs.size+1:=(AR ..).trans (size_push' ..)
theorem kB(h:Heap)(vs:List Value):(yc h vs).get? (h.objs.size+1)=some (seqObj "list" vs.toArray 0):=by have:=eA ((h.push (seqObj "list" #[] 0)).update h.objs.size (Obj.mapSeq (· ++ vs.toArray))) (o:=seqObj "list" vs.toArray 0) rfl;rw[rM]at this;exact this
theorem kC(e:h.get? b=some o):(yc h vs).get? b=some o/\b≠h.objs.size+1:=by have hb:b<h.objs.size:=eD e;refine⟨b7 _ ?_,hZ (tI hb)⟩;rw[i9 _ _ (Nat.ne_of_gt hb)];exact b7 _ e
theorem rN(hl:s.heap.IsList l vs.toArray\/IsTup s.heap l vs.toArray)(hz:vs.length<=sizeLine)
  (h:wpAny (model prog w) A.in1.in1 (Builtin.«list.sort» ⟨[.ref (s⁻¹+1)],[]⟩) (λf s'=>f=.done (.ret .none)/\Q (.ref (s⁻¹+1)) s') E { s with heap:=yc s.heap vs}) :
  wpAny (model prog w) A (call (.builtin "sorted") [.ref l]) Q E s:=by
 refine Calls.call_function_entry kind_sorted plain_sorted entry_sorted (args_sorted1 _) ?_;unfold Builtin.«sorted»;have go:wpAny (model prog w) A.in1 (collect (.ref l)) (λvs' s'=>vs'=vs/\s'={ s with heap:=(s.heap.push (seqObj "list" #[] 0)).update s⁻¹ (Obj.mapSeq (· ++ vs.toArray))}) E s:=by
  rcases hl with hl |hl
  . exact collect_list hl ⟨rfl,rfl⟩ hz
  . exact gf hl ⟨rfl,rfl⟩ hz
 refine a9 (m:=checkCount "sorted" 1 1 _) (d6 (a9 (mE go ?_ λ_ _ z=>z)))
 rintro _ _ ⟨rfl,rfl⟩;refine a9 (A6 ?_ hz);show wpAny _ _ _ _ _ { s with heap:=yc s.heap _};rw[rM];refine a9 (kA (An slot_list_sort ⟨_,kB _ _,rfl⟩ entry_list_sort (mE h (λf s' hf=>⟨_,hf.1,?_⟩) λ_ _ z=>z) (args_list_sort _)))
 exact d6 ⟨_,rfl,hf.2⟩
end
theorem lQ:∀a:List Int,HT.lexLt a a=false
 | []=>rfl
 |x::a=>by rw[HT.cH,eP rfl,lQ a]
theorem vH:∀a b c:List Int,HT.lexLt a b=true->HT.lexLt b c=true->HT.lexLt a c=true
 | [],[],_,h,_=>by cases h
 |_::_,[],_,h,_=>by cases h
 |_,_::_,[],_,h=>by cases h
 | [],_::_,_::_,_,_=>rfl
 |x::a,y::b,z::c,h1,h2=>by
  rw[HT.cH]at h1 h2 ⊢
  by_cases e1:x=y
  .
   rw[eP e1]at h1;subst e1;by_cases e2:x=z
   .
    rw[eP e2]at h2 ⊢
    exact vH a b c h1 h2
   .
    rw[eQ e2]at h2 ⊢
    exact h2
  .
   rw[eQ e1]at h1;have Vq:=l4 h1;by_cases e2:y=z
   . rw[eP e2]at h2;subst e2;rw[eQ e1];exact h1
   . rw[eQ e2]at h2;have h2':=l4 h2;rw[eQ ⋯];exact lL ⋯
theorem lR:∀a b:List Int,HT.lexLt a b=false->HT.lexLt b a=false->a=b
 | [],[],_,_=>rfl
 | [],_::_,h,_=>by cases h
 |_::_,[],_,h=>by cases h
 |x::a,y::b,h1,h2=>by
  rw[HT.cH]at h1 h2;by_cases e:x=y
  . subst e;rw[eP rfl]at h1 h2;rw[lR a b h1 h2]
  .
   rw[eQ e]at h1;rw[eQ (λz=>e z.symm)]at h2
   have:=A8 h1;have:=A8 h2;lia
def cT:gK (List Int):=⟨HT.lexLt,lQ,vH,lR⟩
section
variable{α:Type}(O:gK α)
noncomputable def BX(a:α):List α->List α
 | []=>[a]
 |b::l=>if O.lt b a then b::BX a l else a::b::l
def bV:List α->List α
 | []=>[]
 |a::l=>BX O a (bV l)
variable{O}
theorem lT(a:α):∀l:List α,(BX O a l).Perm (a::l)
 | []=>oI _
 |b::l=>by
  unfold BX;split
  . exact ((lT a l).cons b).trans (List.Perm.swap a b l)
  . exact oI _
theorem bZ:∀l:List α,(bV O l).Perm l
 | []=>oI _
 |a::l=>(lT a _).trans ((bZ l).cons a)
theorem mY(a:α):∀{l:List α},l.Pairwise O.le->(BX O a l).Pairwise O.le
 | [],_=>List.pairwise_singleton _ _
 |b::l,h=>by
  obtain⟨h1,h2⟩:=yB.mp h;unfold BX;cases e:O.lt b a with
  |true=>
   rw[eP rfl];refine yB.mpr ⟨λx hx=>?_,mY a h2⟩
   rcases dS.mp ((lT a l).mem_iff.mp hx)with rfl |hx
   . exact gK.le_of_lt e
   . exact h1 x hx
  |false=>
   rw[eQ hU];refine yB.mpr ⟨λx hx=>?_,h⟩
   rcases dS.mp hx with rfl |hx
   . exact e
   . exact gK.rL (show O.le a b from e) (h1 x hx)
theorem fj:∀l:List α,(bV O l).Pairwise O.le
 | []=>List.Pairwise.nil
 |a::l=>mY a (fj l)
theorem dW(hp:m.Perm l)(hs:m.Pairwise O.le):m=bV O l:=
 (hp.trans (bZ l).symm).eq_of_pairwise (λx y _ _ h1 h2=>gK.zC h1 h2) hs (fj l)
theorem cL{β:Type}(ks:List β)(d:β):(List.range ks.length).map (λi=>ks.getD i d)=ks:=by
 refine List.ext_getElem ⋯ λi h1 h2=>?_
 simp[gL h2]
theorem mZ(hp:p.Perm (List.range ks.length).toArray)(hr:jr O (λi=>ks.getD i d) p ks.length):p.toList.map (λi=>ks.getD i d)=bV O ks:=by
 have hl:=wS.mp hp;refine dW ((hl.map _).trans (by rw[List.toList_toArray,cL])) ?_
 rw[List.pairwise_iff_getElem];intro i j hi hj hij;have hs:p.size=ks.length:=by rw[hp.size_eq];simp
 rw[dC,nV]at hi hj;have:=hr i j (Nat.le_of_lt hij) ⋯;unfold ez at this;have e1:p.getD i 0=p[i]:=by simp[Array.getD,hi]
 have e2:p.getD j 0=p[j]:=by simp[Array.getD,hj]
 rw[e1,e2]at this;simpa using this
end
open L2 PySem.W
section
theorem Gn(hv:IntsAre vs ns):∀{ws:List Value}{ms:List Int} (i:Nat),IntsAre ws ms->fin=decide (ns.length<ms.length)->Q (HT.lexLt ns ms) s->KatLex prog w A true fin Q (vs.zip ws) i s:=by
 induction hv with
 |nil=>
  intro ws ms i hu hf h;rw[BD];refine kat_nil ?_;rw[hf];cases hu with
  |nil=>exact h
  |cons _=>exact h
 |@cons n t vs ns hv ih=>
  intro ws ms i hu hf h;cases hu with
  |nil=>rw[List.zip_nil_right];refine kat_nil ?_;rw[hf];exact h
  |@cons m t' us ms hu=>
   rw[oD];refine kat_cons (wpAny_eqBool_int (kat_go (λe=>?_) (λe=>?_)))
   .
    have e':n=m:=eq_of_beq e;refine kat_yes (ih (i+1) hu (by rw[hf];simp) ?_)
    rw[HT.cH,eP e']at h;exact h
   .
    have e':n≠m:=λq=>by rw[q]at e;simp at e
    rw[HT.cH,eQ e']at h;refine kat_no ?_;cases i with
    |zero=>exact oneLt_int h
    |succ i=>exact kat_one _ _ (lt_int h)
def Gp(h:Heap)(v:Value)(ns:List Int):Prop:=∃a ao,v=.ref a/\IsTup h a ao/\IntsAre ao.toList ns
theorem Gp.keep(x:Gp h v ns)(k:∀b o,h.get? b=some o->h'.get? b=some o):Gp h' v ns:=let ⟨a,aA,e,t,i⟩:=x;⟨a,aA,e,t.keeps k,i⟩
inductive TupIs(h:Heap):List Value->List (List Int)->Prop
 |nil:TupIs h [] []
 |cons {v:Value}{ns:List Int}{vs:List Value}{dG:List (List Int)}:Gp h v ns->TupIs h vs dG->TupIs h (v::vs) (ns::dG)
theorem TupIs.keep(k:∀b o,h.get? b=some o->h'.get? b=some o)(t:TupIs h vs dG):TupIs h' vs dG:=by
 induction t with
 |nil=>exact .nil
 |cons a b ih=>exact .cons (a.keep k) ih
theorem TupIs.length(t:TupIs h vs dG):vs.length=dG.length:=by
 induction t with
 |nil=>rfl
 |cons a b ih=>exact congrArg (· + 1) ih
theorem TupIs.at(t:TupIs h vs dG)(hi:i<vs.length):Gp h (vs.getD i .none) (dG.getD i []):=by
 induction t generalizing i with
 |nil=>exact absurd hi (AG _)
 |cons a b ih=>cases i with
  |zero=>exact a
  |succ i=>exact ih (At hi)
theorem TupIs.firsts(t:TupIs h vs dG)(eY:∀ns∈dG,ns≠[]):∃fs:List Value,KatTups h vs fs/\fs.length=vs.length/\∀v∈fs,∃i t,v=.int i t:=by
 induction t with
 |nil=>exact⟨[],.nil,rfl,λ_ z=>nomatch z⟩
 |@cons v ns vs dG a b ih=>
  obtain⟨fs,q1,q2,q3⟩:=ih λns hn=>eY ns (aS _ hn)
  obtain⟨a,ao,e,⟨o,e1,e2,n,e3⟩,hi⟩:=a;subst e;obtain⟨ao⟩:=ao;cases ao with
  |nil=>
   cases ns with
   |nil=>exact absurd rfl (eY [] bP)
   |cons _ _=>cases hi
  |cons v ao=>
   cases ns with
   |nil=>cases hi
   |cons m ns=>cases hi;exact⟨_::fs,KatTups.cons e1 e2 e3 rfl q1,by rw[eI,eI,q2],λv hv=>(dS.mp hv).elim (λz=>⟨_,_,z⟩) (q3 v)⟩
theorem rO:Looks M h (typeOf (.int i t)) (.type "int"):=.now
theorem vI(hl:s.heap.IsList l vs.toArray\/IsTup s.heap l vs.toArray)(ht:TupIs s.heap vs dG)(eY:∀ns∈dG,ns≠[])(h64:vs.length<64)
  (h:∀p:List Nat,p.Perm (List.range vs.length)->p.map (λi=>dG.getD i [])=bV cT dG->Q (.ref (s⁻¹+1)) { s with heap:=sortedAll s.heap vs (p.map λi=>vs.getD i Value.none).toArray}) :
  wpAny (model prog w) A (call (.builtin "sorted") [.ref l]) Q E s:=by
 have hz:vs.length<=sizeLine:=by rw[mI];lia
 refine rN hl hz ?_;have aJ:=ht.length;by_cases h2:vs.length<2
 .
  refine vG (kB _ _) h2 ⟨rfl,?_⟩;have:=h (List.range vs.length) (oI _) (by
   rw[aJ,cL]
   match dG,aJ with
   | [],_=>rfl
   | [x],_=>rfl
   |_::_::_,hl2=>rw[hl2,eI,eI]at h2;lia)
  rw[cL]at this;exact this
 .
  have keep:∀b o,s.heap.get? b=some o->(dc { s with heap:=yc s.heap vs} (s⁻¹+1) vs).heap.get? b=some o:=λb o e=>mX (kC (vs:=vs) e).2 (kC e).1
  have ht':=ht.keep keep;refine vF (κ:=tuples' true) (O:=cT) (key:=λi=>dG.getD i []) (kB _ _) ⋯ h64 (λQ' hq=>?_) (λi j C hi hj hC=>?_) λp hp hr=>⟨rfl,?_⟩
  . obtain⟨fs,q1,q2,q3⟩:=ht'.firsts eY;exact kat_kind (T:=.type "int") q1 ⋯ (λv hv=>by obtain⟨i,t,rfl⟩:=q3 v hv;exact rO) ⋯ hq
  . obtain⟨a,aA,e,⟨o,e1,e2,n,e3⟩,q⟩:=ht'.at hi;obtain⟨b,gX,e',⟨o2,e4,e5,n2,e6⟩,q'⟩:=ht'.at hj;show wpAny _ _ (keyLt' (tuples' true) (vs.getD i Value.none) (vs.getD j Value.none)) C _ _;rw[e,e'];refine kat_lt e1 e3 e4 e6 (Gn q 0 q' ?_ hC);rw[<- q.length,<- q'.length];simp
  . rw[aJ]at hp hr;exact h p.toList (by rw[aJ];exact (wS.mp hp).trans ⋯) (mZ hp hr)
end
section
def dP:List D->Option (List (List Int))
 | []=>some []
 |.tup l::ds=>match aP l,dP ds with |some (n::ns),some dG=>some ((n::ns)::dG) |_,_=>none
 |_::_=>none
inductive jy(K:Frag)(H:Hp):List V->List (List Int)->Prop
 |nil:jy K H [] []
 |cons {a:Addr}{ns:List Int}{vs:List V}{dG:List (List Int)}:fy K H a (ns.map V.int)->jy K H vs dG->jy K H (.ref a::vs) (ns::dG)
theorem jy.real(I:L2.Inv X ah σ H s)(t:jy X.K H xs dG):∀{aA:List Value},Vals xs aA->TupIs s.heap aA dG:=by
 induction t with
 |nil=>intro aA r;cases r;exact .nil
 |cons q _ ih=>
  intro aA r;cases r with
  |cons r rs=>cases r;obtain⟨gX,r2,p,_⟩:=I.tuple q;exact .cons ⟨_,_,rfl,p,by simpa using intsAre_of r2⟩ (ih rs)
theorem lU(h:Vals xs us):∀{i:Nat},i<xs.length->RelV (xs.getD i .non) (us.getD i .none):=by
 induction h with
 |nil=>intro i hi;exact absurd hi (AG _)
 |cons r _ ih=>
  intro i hi;cases i with
  |zero=>exact r
  |succ i=>exact ih (by simpa using hi)
theorem lV(h:Vals xs us):∀{p:List Nat},(∀i∈p,i<xs.length)->Vals (p.map λi=>xs.getD i .non) (p.map λi=>us.getD i .none)
 | [],_=>.nil
 |i::p,hp=>.cons (lU h (hp i bP)) (lV h λj hj=>hp j (aS _ hj))
theorem tU:dO X (.builtin "sorted") (λxs H Q=>∃p ys dG,xs=[.ref p]/\(bY X.K H p ys\/fy X.K H p ys)/\jy X.K H ys dG/\(∀ns∈dG,ns≠[])/\ys.length<64/\
  ∀q (o:List Nat),H q=none->(∀i∈o,i<ys.length)->o.map (λi=>dG.getD i [])=bV cT dG->Q (.ref q) (upd H q (.lst (o.map λi=>ys.getD i .non)))):=by
 intro ah s σ H xs us Q I r h;obtain⟨p,ys,dG,rfl,hq,ht,eY,hl,q⟩:=h;obtain⟨u,rfl,rx⟩:=vals1 r;cases rx;have fin:∀aA:List Value,Vals ys aA->(s.heap.IsList p aA.toArray\/IsTup s.heap p aA.toArray)->wpAny (model X.prog X.w) X.A (call (.builtin "sorted") [.ref p]) (EP X ah σ Q) X.xe s:=λaA r' pl=>by
  have aJ:=r'.length;refine vI pl (ht.real I r') eY ⋯ λo ho hs=>?_
  obtain⟨ep,he⟩:=sortedAll_at s.heap aA (o.map λi=>aA.getD i Value.none).toArray
  have hin:∀i∈o,i<ys.length:=λi hi=>by rw[aJ];exact lS.mp (ho.mem_iff.mp hi)
  have XC:o.length=ys.length:=by rw[ho.length_eq,AK,aJ]
  refine⟨.ref (s⁻¹+1),_,I.laid (t':=s.toks) (o:=.lst (o.map λi=>ys.getD i .non)) (λb ob e=>sortedAll_old e) (wE _) ?_,rfl,q _ o (I.hok.fresh (wE _)) hin hs⟩
  refine⟨by rw[dC,mI];lia,_,ep,lV r' hin,he⟩
 rcases hq with hq |hq
 . obtain⟨aA,r',pl,hz⟩:=I.list hq;exact fin aA r' (.inl pl.isList)
 . obtain⟨aA,r',pl,hz⟩:=I.tuple hq;exact fin aA r' (.inr pl)
theorem zG(e:aP l=some ns):l=ns.map .int:=by
 induction l generalizing ns with
 |nil=>cases e;rfl
 |cons d l ih=>cases d with
  |int i=>
   have e:(match aP l with |some ns=>some (i::ns) |none=>none)=some ns:=e
   cases e2:aP l with
   |none=>rw[e2]at e;cases e
   |some ms=>rw[e2]at e;cases e;rw[List.map_cons,<- ih e2]
  |_=>cases e
theorem rP{K:Frag}{M:List Addr}{H:Hp}{l:List D}{xs:List V}{dG:List (List Int)}(q:aH K M H l xs)(e:dP l=some dG):jy K H xs dG/\(∀ns∈dG,ns≠[])/\l=dG.map λns=>.tup (ns.map .int):=by
 induction l generalizing xs dG with
 |nil=>cases q;cases e;exact⟨.nil,λ_ z=>(nomatch z),rfl⟩
 |cons d l ih=>cases q with |cons r q=>cases d with
  |tup m=>
   unfold dP at e;split at e
   .
    rename_i n ns dG e1 e2;cases e;obtain⟨t1,t2,t3⟩:=ih q e2;cases r with
    |tup ha rr=>
     have:=aV rr e1;subst this;refine⟨.cons ha.sq t1,λx hx=>(dS.mp hx).elim (λz=>by rw[z];exact List.cons_ne_nil _ _) (t2 x),?_⟩
     rw[List.map_cons,<- t3,zG e1]
   . cases e
  |_=>cases e
theorem aH.pick{K:Frag}{M:List Addr}{H:Hp}{ds:List D}{vs:List V}(h:aH K M H ds vs):∀{o:List Nat},(∀i∈o,i<vs.length)->aH K M H (o.map λi=>ds.getD i .non) (o.map λi=>vs.getD i .non)
 | [],_=>.nil
 |i::o,ho=>by
  refine .cons ?_ (h.pick λj hj=>ho j (aS _ hj))
  have hi:=ho i bP;have hd:i<ds.length:=by rw[h.length];exact hi
  obtain⟨v,e1,e2⟩:=h.get (i:=i) (d:=ds[i]) (by simp[hd])
  have q1:ds.getD i .non=ds[i]:=by simp[hd]
  have q2:vs.getD i .non=v:=by rw[dE,e1];rfl
  show Rep K M H (ds.getD i .non) (vs.getD i .non);rw[q1,q2];exact e2
theorem yd{d:D}{l:List D}{dG:List (List Int)}(hK:z.K=X.K)(h:bF d=some l)(hi:dP l=some dG)(hl:dG.length<64):CallD X z (.builtin "sorted") [d] (.new ((bV cT dG).map λns=>.tup (ns.map .int))):=by
 refine⟨_,tU,λg σ As M H vs Q s p k=>?_⟩
 obtain⟨v,rfl,pv⟩:=p.one;have main:∀(a:Addr) (xs:List V),aH z.K M H l xs->(bY X.K H a xs\/fy X.K H a xs)->∃p ys dG,[V.ref a]=[.ref p]/\(bY X.K H p ys\/fy X.K H p ys)/\jy X.K H ys dG/\(∀ns∈dG,ns≠[])/\ys.length<64/\
   ∀q (o:List Nat),H q=none->(∀i∈o,i<ys.length)->o.map (λi=>dG.getD i [])=bV cT dG->Q (.ref q) (upd H q (.lst (o.map λi=>ys.getD i .non))):=λa xs rr hq=>by
  obtain⟨t1,t2,t3⟩:=rP rr hi;have aJ:xs.length=dG.length:=by rw[<- rr.length,t3,dC]
  refine⟨a,xs,dG,rfl,hq,hK▸t1,t2,by lia,λq o hf hin hs=>?_⟩
  have e:((bV cT dG).map λns=>D.tup (ns.map .int))=o.map λi=>l.getD i .non:=by
   rw[<- hs,List.map_map];refine kS λi hi=>?_
   have:i<dG.length:=by rw[<- aJ];exact hin i hi
   rw[t3];simp[this]
  have rr':=(rr.pick hin).stay (az.aW (o:=.lst (o.map λi=>xs.getD i .non)) hf)
  refine k _ _ As (q::M) (s.aW hf) (az.aW hf) ⟨q,_,rfl,bP,λhA=>s.fresh hf (s.sub q hA),s.cI hf,aI,?_⟩
  rw[e];exact rr'
 cases d with
 |lst m=>cases h;obtain⟨a,xs,rfl,e1,e2⟩:=pv.list;exact main a xs e2 (.inl (bY.of e1))
 |tup m=>cases h;obtain⟨a,xs,rfl,e1,e2⟩:=pv.tup;exact main a xs e2 (.inr (hK▸e1.sq))
 |fix m=>cases h;obtain⟨a,xs,rfl,e1,e2⟩:=pv.fix;exact main a xs e2 (.inl (hK▸e1.sq))
 |_=>cases h
end
open L2 PySem.W
noncomputable def jL(n:Int):List Int->Int
 | []=>n
 |m::l=>jL (if m<n then m else n) l
theorem zH:∀(l:List Int) (n:Int),jL n l<=n/\(∀x∈l,jL n l<=x)/\(jL n l=n\/jL n l∈l)
 | [],n=>⟨Int.le_refl _,λ_ z=>(nomatch z),.inl rfl⟩
 |m::l,n=>by
  obtain⟨h1,h2,h3⟩:=zH l (if m<n then m else n)
  unfold jL;refine⟨?_,λx hx=>?_,?_⟩
  . split at h1 <;> split <;> lia
  .
   rcases dS.mp hx with rfl |hx
   . split at h1 <;> split <;> lia
   . exact h2 x hx
  .
   rcases h3 with h3 |h3
   .
    by_cases hm:m<n
    . rw[eP hm]at h3 ⊢;exact .inr (by rw[h3];exact bP)
    . rw[eQ hm]at h3 ⊢;exact .inl h3
   . exact .inr (aS _ h3)
theorem Gq(n:Int)(l:List Int):(n::l).getD (argBest (λi j=>decide ((n::l).getD i 0<(n::l).getD j 0)) l.length) 0=jL n l:=by
 obtain⟨h1,h2⟩:=argBest_lt (λi=>(n::l).getD i 0) l.length
 obtain⟨m1,m2,m3⟩:=zH l n;generalize argBest (λi j=>decide ((n::l).getD i 0<(n::l).getD j 0)) l.length=k at h1 h2 ⊢
 have hmem:(n::l).getD k 0∈n::l:=by
  have:k<(n::l).length:=by rw[eI];lia
  rw[dE,gL this];exact BY _
 have a:jL n l<=(n::l).getD k 0:=by
  rcases dS.mp hmem with e |e
  . rw[e];exact m1
  . exact m2 _ e
 have b:(n::l).getD k 0<=jL n l:=by
  have:jL n l∈n::l:=m3.elim (λe=>by rw[e];exact bP) (aS _)
  obtain⟨j,hj,e⟩:=AU this;have q:=h2 j (by rw[eI]at hj;lia)
  rw[show (n::l).getD j 0=jL n l by rw[dE,gL hj];exact e]at q
  exact q
 lia
section
variable{X:Cx}{z:Z}
theorem rQ{h h':Heap}{o:Obj}(hk:∀b ob,b∉[h.objs.size]->(h.push o).get? b=some ob->h'.get? b=some ob):∀b ob,h.get? b=some ob->h'.get? b=some ob:=λb ob e=>
 hk b ob (λhm=>by
  have:b=h.objs.size:=by simpa using hm
  exact absurd (eD e) (by rw[this];exact mB _)) (b7 _ e)
theorem BZ(hc:X.calm=true):dO X (.builtin "min") (λxs H Q=>∃(p:Addr) (n:Int) (l:List Int),xs=[.ref p]/\(bY X.K H p ((n::l).map V.int)\/fy X.K H p ((n::l).map V.int))/\Q (.int (jL n l)) H):=by
 intro ah s σ H xs us Q I r h;obtain⟨p,n,l,rfl,hp,q⟩:=h;obtain⟨u,rfl,rx⟩:=vals1 r;cases rx;have hh:X.A.in1.handled=none:=I.ok.hd hc;have fin:∀(aA:List Value) (v:Value) (h':Heap) (tk:Nat),Vals ((n::l).map V.int) aA->aA[argBest (λi j=>decide ((n::l).getD i 0<(n::l).getD j 0)) (aA.length - 1)]?=some v->(∀b o,s.heap.get? b=some o->h'.get? b=some o)->EP X ah σ Q v { s with heap:=h',toks:=tk}:=by
  intro aA v h' tk rv hv hk;have aJ:aA.length=l.length+1:=by rw[<- rv.length,dC,eI]
  rw[aJ,A9]at hv;obtain⟨t,rfl⟩:=ku rv hv;exact⟨.int (jL n l),H,I.kept hk,⟨t,by rw[Gq]⟩,q⟩
 rcases hp with hp |hp
 .
  obtain⟨aA,rv,pl,hz⟩:=I.list hp;have hlt:p<s⁻¹:=by obtain⟨_,e,_⟩:=pl.isList;exact eD e
  refine call_min_walk (sR pl.isList ?_);refine⟨s⁻¹,_,_,_,_,_,_,rfl,CD (A:=X.A.in1) hh s⁻¹ p (hZ hlt) aA.toArray,⟨⟨_,eA _ rfl,rfl,rfl⟩,pl.isList.push _⟩,λb hb=>?_,by rw[b6,<- rv.length,dC];exact Nat.succ_pos _,CmpOf.ints_lt (λi=>(n::l).getD i 0) (λi v hv=>ku rv (by simpa using hv)),λv h' tk hP hk=>fin aA v h' tk rv (by simpa using hP) (rQ hk)⟩
  simp only[dS,l8,AB]at hb;rcases hb with rfl |rfl
  . exact o6 (l5 _) (oC _ _).symm
  . exact o6 (tI hlt) (oC _ _).symm
 .
  obtain⟨aA,rv,pl,hz⟩:=I.tuple hp;have hlt:p<s⁻¹:=by obtain⟨_,e,_⟩:=pl;exact eD e
  have Gg:s.heap.IsTuple p aA.toArray:=pl;refine call_min_walk (t8 Gg ?_);refine⟨s⁻¹,_,_,_,_,_,_,rfl,Walks.tuple (A:=X.A.in1) hh s⁻¹ p (hZ hlt) aA.toArray,⟨⟨_,eA _ rfl,rfl,rfl⟩,IsTup.keeps Gg λb o e=>b7 _ e⟩,λb hb=>?_,by rw[b6,<- rv.length,dC];exact Nat.succ_pos _,CmpOf.ints_lt (λi=>(n::l).getD i 0) (λi v hv=>ku rv (by simpa using hv)),λv h' tk hP hk=>fin aA v h' tk rv (by simpa using hP) (rQ hk)⟩
  simp only[dS,l8,AB]at hb;rcases hb with rfl |rfl
  . exact o6 (l5 _) (oC _ _).symm
  . exact o6 (tI hlt) (oC _ _).symm
theorem vJ(hK:z.K=X.K)(h:bF d=some l)(hi:aP l=some ns)(pv:Pk z.K M H d v):∃a,v=.ref a/\(bY X.K H a (ns.map V.int)\/fy X.K H a (ns.map V.int)):=by
 cases d with
 |lst m=>cases h;obtain⟨a,xs,rfl,e1,e2⟩:=pv.list;have:=aV e2 hi;subst this;exact⟨a,rfl,.inl (bY.of e1)⟩
 |tup m=>cases h;obtain⟨a,xs,rfl,e1,e2⟩:=pv.tup;have:=aV e2 hi;subst this;exact⟨a,rfl,.inr (hK▸e1.sq)⟩
 |fix m=>cases h;obtain⟨a,xs,rfl,e1,e2⟩:=pv.fix;have:=aV e2 hi;subst this;exact⟨a,rfl,.inl (hK▸e1.sq)⟩
 |_=>cases h
theorem Li(hc:X.calm=true)(hK:z.K=X.K)(h:bF d=some l)(hi:aP l=some (n::ns)):CallD X z (.builtin "min") [d] (.dat (.int (jL n ns))):=by
 refine⟨_,BZ hc,λg σ As M H vs Q s p k=>?_⟩
 obtain⟨v,rfl,pv⟩:=p.one;obtain⟨a,rfl,q⟩:=vJ hK h hi pv;exact⟨a,n,ns,rfl,q,k _ _ As M s (az.refl _ _) (.int _)⟩
end
open L2 PySem.W
section
def Gr(X:Cx)(z:Z)(id:String)(d0 d1:D)(r:R):Prop:=
 ∀(g:G) (ah:List (Addr×Obj)) (s:Shared) (σ:Sg) (As M:List Addr) (H:Hp) (v0 v1:V) (u0 u1:Value) (Post:Value->Shared->Prop),L2.Inv X ah σ H s->S z g σ As M H->Pk z.K M H d0 v0->Pk z.K M H d1 v1->RelV v0 u0->RelV v1 u1->
  (∀v u s1 H1 bf M1,L2.Inv X ah σ H1 s1->RelV v u->S z g σ bf M1 H1->az M H M1 H1->fT z g σ bf M1 H1 r v->Post u s1)->wpAny (model X.prog X.w) X.A (call (.builtin id) [u0,u1]) Post X.xe s
theorem Lj(I:L2.Inv X ah σ H s)(p:Pk X.K M H d v)(r:RelV v u)(hs:bF d=some l):s.TypeIs u (xx d)/\∀a,u=.ref a->∃ob,s.heap.get? a=some ob/\ob.dict=none:=by
 cases d with
 |tup m=>
  obtain⟨a,xs,rfl,ha,_⟩:=p.tup;cases r;have:∃o,s.heap.get? a=some o/\o.cls=.type "tuple" /\o.dict=none:=by
   rcases ha with ⟨_,hr⟩ |⟨hk,o,e1,e2⟩
   . obtain⟨_,aA,_,⟨o,e1,⟨e2,_⟩,e3⟩⟩:=hr.ok I.hok;exact⟨o,e1,e2,e3⟩
   .
    obtain⟨aA,_,⟨o',q1,q2,_⟩,_⟩:=I.tuple (hk.elim (λz=>(rd0 z).elim) .inr:fy X.K H a xs)
    have:=I.uS a o e1;rw[q1]at this;cases this;exact⟨_,q1,q2,e2⟩
  obtain⟨o,e1,e2,e3⟩:=this;exact⟨⟨o,e1,e2⟩,λb e=>by cases e;exact⟨o,e1,e3⟩⟩
 |lst m=>obtain⟨a,xs,rfl,ha,_⟩:=p.list;cases r;obtain⟨aA,_,pl,_⟩:=I.list (bY.of ha);obtain⟨o,n,e1,e2,e3,e4⟩:=pl;exact⟨⟨o,e1,e2⟩,λb e=>by cases e;exact⟨o,e1,e3⟩⟩
 |fix m=>obtain⟨a,xs,rfl,ha,_⟩:=p.fix;cases r;obtain⟨aA,_,pl,_⟩:=I.list ha.sq;obtain⟨o,n,e1,e2,e3,e4⟩:=pl;exact⟨⟨o,e1,e2⟩,λb e=>by cases e;exact⟨o,e1,e3⟩⟩
 |_=>cases hs
theorem Lk{o e:Expr}{name:Str}{id:String}{g g1 g2:G}{r0 r1 r:R}{d d0 d1:D}{l:List D}{eo bQ:Pos}(hK:z.K=X.K)(pa:PlainAttrs (xx d))(slot:PySem.Slot (xx d) name id)(hty:typeOf (.builtin id)=pure (.type "method_descriptor"))
  (h0:aB X z o g r0 g1) (p0:pk r0 g1=some d) (hs:bF d=some l) (ha:dF X z [e] g1 [r1] g2) (q0:pk r0 g2=some d0) (q1:pk r1 g2=some d1) (hm:Gr X z id d0 d1 r)
  (hbase:attributeBase o name X.env (eval o X.env)=eval o X.env)
  (hfew:((backTo bQ (starEach [e] X.env)).all (λx=>!x.1)&&(backToKw bQ (keywordEach [] X.env)).all (λx=>x.1.isSome)
   && decide ([e].length+([]:List Keyword).length+(if ([]:List Keyword).isEmpty then 0 else 1)<30))=true)
  (hline:(eo.endLine==bQ.line)=true) (fh:starEach [e] X.env=(false,eval e X.env)::starEach [] X.env):aB X z (.Call (.Attribute o name eo) [e] [] bQ) g r g2:=by
 refine aB.of λah s σ As M H Post I st k=>?_
 refine wpAny_Call_method_late hbase hfew hline rfl (h0.run I st λv u s1 H1 bf M1 I1 r1' DK FQ RW=>?_)
 obtain⟨hT,hd⟩:=Lj I1 (hK▸DK.pk (az.refl _ _) RW p0) r1' hs;refine⟨_,id,pa,slot,hty,hT,hd,?_⟩;have hA:=ha.run (pos:=bQ) (Post:=λus s2=>wpAny (model X.prog X.w) X.A (call (.builtin id) (u::us)) Post X.xe s2) I1 DK λvs us s2 H2 bK M2 I2 r2 t1 t2 t3=>by
  have qM:=t1.qM t3 (ds:=[d1]) (by unfold qM;rw[q1];rfl)
  obtain⟨v1,rfl,Vr⟩:=qM.one;obtain⟨u1,rfl,ru1⟩:=vals1 r2;exact hm g2 ah s2 σ bK M2 H2 v v1 u u1 Post I2 t1 (t1.pk t2 RW q0) Vr r1' ru1 λv' u' s3 H3 lq M3 I3 r3 w1 w2 w3=>k v' u' s3 H3 lq M3 I3 r3 w1 (FQ.trans (t2.trans w2)) w3
 rw[fh]at hA ⊢
 exact Calls.callWith_builtin rfl (Calls.evalArgs_plain hA)
end
open L2 PySem.W SeqAt
section
def O4:D->String
 |.tup _=> "tuple.count"
 |_=> "list.count"
def XD:D->String
 |.tup _=> "tuple.index"
 |_=> "list.index"
theorem jc:∀{l:List D}{us:List Value},jZ h l us->us.countP (mU h x)=l.countP λd=>cD d x
 |_,_,.nil=>rfl
 |_,_,.cons q r=>by rw[List.countP_cons,List.countP_cons,xU q,jc r]
theorem Gs(hK:z.K=X.K)(hs:bF d0=some l)(p1:gF d1=true)(p2:fc l=true)(hd:X.A.units+deps l+1<cLine):Gr X z (O4 d0) d0 d1 (.dat (.int (l.countP λd=>cD d d1:Nat))):=by
 intro g ah s σ As M H v0 v1 u0 u1 Post I st q0 q1 r0 r1 k;rw[hK]at q0 q1;have hx:=q1.dv I r1 p1;have fin:Post (.int (l.countP λd=>cD d d1:Nat) s.toks) { s with toks:=s.toks+1}:=k (.int _) _ _ H As M (I.tok _) ⟨_,rfl⟩ st (az.refl _ _) (.int _)
 cases d0 with
 |tup m=>
  cases hs;obtain⟨a,xs,rfl,ha,rr⟩:=q0.tup;cases r0;obtain⟨aA,rv,⟨⟨cls,dd,data,sl⟩,ho,hc,n,hdt⟩,hz⟩:=I.tuple ha.sq;simp only at hc hdt;subst hc hdt;have fG:=rr.dv I rv p2;show wpAny _ _ (call (.builtin "tuple.count") _) _ _ _;refine AW F.slot_tuple_count ⟨_,ho,rfl⟩ F.entry_tuple_count (F.args_tuple_count_2 _ _) (tuple_countAt a aA.toArray n dd sl u1 (mU s.heap d1)) ⟨ho,gQ fG hx hd,?_⟩;rw[show aA.toArray.toList=aA from rfl,jc fG]
  exact fin
 |lst m=>
  cases hs;obtain⟨a,xs,rfl,ha,rr⟩:=q0.list;cases r0;obtain⟨aA,rv,pl,hz⟩:=I.list (bY.of ha);obtain⟨⟨cls,dd,data,sl⟩,ho,hc,n,hdt⟩:=pl.isList;simp only at hc hdt;subst hc hdt;have fG:=rr.dv I rv p2;show wpAny _ _ (call (.builtin "list.count") _) _ _ _;refine AW BF ⟨_,ho,rfl⟩ F.entry_list_count (F.args_list_count_2 _ _) (list_countAt a aA.toArray n dd sl u1 (mU s.heap d1)) ⟨ho,gQ fG hx hd,?_⟩;rw[show aA.toArray.toList=aA from rfl,jc fG]
  exact fin
 |fix m=>
  cases hs;obtain⟨a,xs,rfl,ha,rr⟩:=q0.fix;cases r0;obtain⟨aA,rv,pl,hz⟩:=I.list ha.sq;obtain⟨⟨cls,dd,data,sl⟩,ho,hc,n,hdt⟩:=pl.isList;simp only at hc hdt;subst hc hdt;have fG:=rr.dv I rv p2;show wpAny _ _ (call (.builtin "list.count") _) _ _ _;refine AW BF ⟨_,ho,rfl⟩ F.entry_list_count (F.args_list_count_2 _ _) (list_countAt a aA.toArray n dd sl u1 (mU s.heap d1)) ⟨ho,gQ fG hx hd,?_⟩;rw[show aA.toArray.toList=aA from rfl,jc fG]
  exact fin
 |_=>cases hs
end
open L2 PySem.W SeqAt
section
theorem vK{prog:Program}{w:World}{A:Around}{E:Value->Shared->Prop}{s:Shared}{l:Addr}{vs:List Value}{ns:List Int}{b:Bool}{Q:Value->Shared->Prop}(hl:IsTup s.heap l vs.toArray)(hI:IntsAre vs ns)(h64:vs.length<64)
  (k:∀(out:Array Value) (ns':List Int),IntsAre out.toList ns'->ns'.Perm ns->Ordered b ns'->Q (.ref (s⁻¹+1)) { s with heap:=sortedAll s.heap vs out}) :
  wpAny (model prog w) A (call (.builtin "sorted") [.ref l] [(Str.ofString "reverse",.bool b)]) Q E s:=by
 refine call_function_entry_kw kind_sorted plain_sorted entry_sorted (args_sorted_rev _ _) ?_;unfold Builtin.«sorted»;refine a9 (m:=checkCount "sorted" 1 1 _) (d6 (a9 (gf hl (a9 (A6 ?_)) (by rw[mI];lia))))
 have z:((s.heap.push (seqObj "list" #[] 0)).update s⁻¹ (Obj.mapSeq (· ++ vs.toArray))).objs.size=s⁻¹+1:=by rw[AR,size_push']
 have o:(((s.heap.push (seqObj "list" #[] 0)).update s⁻¹ (Obj.mapSeq (· ++ vs.toArray))).push (seqObj "list" vs.toArray 0)).get? (s⁻¹+1)=some (seqObj "list" vs.toArray 0):=z▸eA _ rfl;show wpAny _ _ _ _ _ { s with heap:=((s.heap.push (seqObj "list" #[] 0)).update s⁻¹ (Obj.mapSeq (· ++ vs.toArray))).push (seqObj "list" vs.toArray 0)};rw[z];exact a9 (kA (wpAny_call_entry_kw slot_list_sort ⟨_,o,rfl⟩ entry_list_sort (list_sort_tree_rev o hI h64 λout ns' a1 a2 a3=>⟨_,rfl,d6 ⟨_,rfl,k out ns' a1 a2 a3⟩⟩) (args_list_sort_rev _ _)))
theorem yf{prog:Program}{w:World}{A:Around}{E:Value->Shared->Prop}{s:Shared}{l:Addr}{vs:List Value}{ns:List Int}{b:Bool}{Q:Value->Shared->Prop}(hl:s.heap.IsList l vs.toArray\/IsTup s.heap l vs.toArray)(hI:IntsAre vs ns)(h64:vs.length<64)
  (k:∀(out:Array Value) (ns':List Int),IntsAre out.toList ns'->ns'.Perm ns->Ordered b ns'->Q (.ref (s⁻¹+1)) { s with heap:=sortedAll s.heap vs out}) :
  wpAny (model prog w) A (call (.builtin "sorted") [.ref l] [(Str.ofString "reverse",.bool b)]) Q E s:=hl.elim (λh=>sorted_ints_rev h hI h64 k) λh=>vK h hI h64 k
theorem yg{r:R}{d:D}{l:List D}{ns:List Int}{j:Nat}(hK:z.K=X.K)(ha:dF X z [e] g [r] g1)(hp:pk r g1=some d)(hs:bF d=some l)(hi:aP l=some ns)(hl:ns.length<64)
  (hg:Gl X "sorted") (hm:X.mg "sorted"=none) (fh:starEach [e] X.env=(false,eval e X.env)::starEach [] X.env) :
  aB X z (.Call (.Name "sorted" p) [e] [⟨some "reverse",.Constant (.bool true) j kp,kpos⟩] pos) g (.new ((bw ns).reverse.map .int)) g1:=by
 refine aB.of λah s σ As M H Post I st k=>?_
 refine AY (fF I hg hm (by rfl:bootBuiltins ("sorted":Str)=some (.builtin "sorted")) (callWith_kw ?_ (by rw[fh];rfl) (by rw[fh];rfl)))
 refine ha.run I st λvs us s1 H1 bf M1 I1 r1 q1 q2 q3=>?_
 have qM:=q1.qM q3 (ds:=[d]) (by unfold qM;rw[hp];rfl)
 obtain⟨v1,rfl,Vr⟩:=qM.one;obtain⟨u1,rfl,ru1⟩:=vals1 r1;refine kws_cons (Constant_bool (kws_nil ?_));have hq:∃q,v1=.ref q/\(bY X.K H1 q (ns.map V.int)\/fy X.K H1 q (ns.map V.int)):=by
  obtain⟨q,rfl,h⟩:=vJ hK hs hi Vr;cases d with
  |lst m=>obtain⟨a,xs,e0,e1,e2⟩:=Vr.list;cases hs;have:=aV e2 hi;subst this;cases e0;exact⟨_,rfl,.inl (bY.of e1)⟩
  |fix m=>obtain⟨a,xs,e0,e1,e2⟩:=Vr.fix;cases hs;have:=aV e2 hi;subst this;cases e0;exact⟨_,rfl,.inl (hK▸e1.sq)⟩
  |tup m=>obtain⟨a,xs,e0,e1,e2⟩:=Vr.tup;cases hs;have:=aV e2 hi;subst this;cases e0;exact⟨_,rfl,.inr (hK▸e1.sq)⟩
  |_=>cases hs
 obtain⟨q,rfl,hq⟩:=hq;cases ru1;obtain⟨aA,rv,pl⟩:∃aA:List Value,Vals (ns.map V.int) aA/\(s1.heap.IsList q aA.toArray\/IsTup s1.heap q aA.toArray):=by
  rcases hq with hq |hq
  . obtain⟨aA,rv,pl,_⟩:=I1.list hq;exact⟨aA,rv,.inl pl.isList⟩
  . obtain⟨aA,rv,pl,_⟩:=I1.tuple hq;exact⟨aA,rv,.inr pl⟩
 have aJ:=rv.length;rw[dC]at aJ;refine yf (b:=true) pl (intsAre_of rv) ⋯ λout ns' a1 a2 a3=>?_
 have e0:ns'=(bw ns).reverse:=by
  have hr:ns'.reverse.Pairwise (· <= ·):=by rw[List.pairwise_reverse];exact a3
  have:=jK ((List.reverse_perm ns').trans a2) hr;rw[<- this,List.reverse_reverse]
 subst e0;obtain⟨ep,he⟩:=sortedAll_at s1.heap aA out;have hf:H1 (s1⁻¹+1)=none:=I1.hok.fresh (wE _);have hlen2:(bw ns).reverse.length=ns.length:=by rw[List.length_reverse];exact (bM ns).length_eq
 refine k (.ref (s1⁻¹+1)) _ _ (upd H1 (s1⁻¹+1) (.lst ((bw ns).reverse.map V.int))) bf ((s1⁻¹+1)::M1) (I1.laid (t':=s1.toks) (o:=.lst ((bw ns).reverse.map V.int)) (λb o e=>sortedAll_old e) (wE _) ?_) rfl (q1.aW hf) (q2.trans (az.aW hf)) ⟨_,_,rfl,bP,λhA=>q1.fresh hf (q1.sub _ hA),q1.cI hf,aI,lP _⟩
 refine⟨by rw[dC,hlen2,mI];lia,out.toList,ep,iY a1,?_⟩
 rw[he]
end
open L2 PySem.W SeqAt
open L2 PySem.W SeqAt
noncomputable def Its(lo c:Int)(n:Nat):It:=⟨λi _=>i<n,λi H x H'=>H'=H/\x=.int (lo+i * c),λi _=>n<=i⟩
theorem Ca{P:Program}{w:World}{K:Frag}{tg:Expr}(it:Addr)(lo c:Int)(n:Nat):Turn P w K tg (Its lo c n) [it] it (λi h=>IsRangeIter h it (lo+(i:Nat) * c) ((n:Int) - (i:Nat)) c) where
 mem:=by simp
 obj:=λi h st b hb=>by
  cases i6.mp hb;exact⟨_,st,λv z=>nomatch (show Data.fields _=Data.cell v from z)⟩
 keep:=λi h h' st k=>k it ⋯ _ st
 item:=by
  intro X hP hw hK hc i ah s σ H E I hf st hg;subst hP hw hK;obtain⟨f0,f1,f2,f3,f4,f5⟩:=hf it ⋯;refine (Walks.range (prog:=X.prog) (w:=X.w) (I.ok.hd hc) it lo c n).item i s _ _ hg st λv h' tk hv st' kk=>?_
  obtain⟨t,rfl⟩:=hv;refine⟨_,rfl,zh (s:={ s with heap:=h',toks:=tk}) (n:= "range_iterator") st' rfl rfl ⋯ ⟨.int (lo+i * c),H,?_,⟨t,rfl⟩,⟨rfl,rfl⟩,st',λb hb=>(hf b hb).1⟩⟩
  exact I.turned (λb o hb e=>kk b o (by simpa using hb) e) f0 f1 f3 f4 f5
 done:=by intro X hP hw hK hc i ah s σ H E I hf st hg;subst hP hw hK;obtain⟨f0,f1,f2,f3,f4,f5⟩:=hf it ⋯;exact wpAny_pyNext_range_end (I.ok.hd hc) st (by have:n<=i:=hg;lia) λh' eb=>⟨rfl,I.turned (t':=s.toks) (λb o hb e=>eb b o hb e) f0 f1 f3 f4 f5⟩
 self:=λ_ _ _ _ _ st h=>wpAny_pyIter_rangeiter st h
noncomputable def qP(lo c:Int)(n:Nat):List D:=(List.range n).map λ(k:Nat)=>D.int (lo+(k:Int) * c)
theorem vL(lo c:Int)(n:Nat):(qP lo c n).length=n:=by simp[qP]
theorem Gu{lo c:Int}{n k:Nat}(h:k<n):(qP lo c n)[k]?=some (.int (lo+(k:Int) * c)):=by simp[qP,h]
theorem Sj{lo c:Int}{n:Nat}{K:Frag}{M:List Addr}{H:Hp}:Jt (Its lo c n) (qP lo c n) K M H:=λM2 H2 _=>by
 refine⟨λk d hd=>?_,?_⟩
 .
  have hk:k<n:=by have:=(b0.mp hd).1;rw[vL]at this;exact this
  rw[Gu hk]at hd;cases hd;refine⟨hk,λx H' hx z' g' σ' aG _ s'=>?_⟩
  obtain⟨rfl,rfl⟩:=hx;exact⟨s',az.refl _ _,.int _⟩
 . show n<=(qP lo c n).length;rw[vL];exact d5 _
noncomputable def lW(lo hi c:Int):Nat:=if lo<hi then ((hi - lo - 1) / c+1).toNat else 0
theorem zI{lo hi c:Int}(hc:0<c):Builtin.Range.rangeSize lo hi c=(lW lo hi c:Int):=by
 unfold Builtin.Range.rangeSize lW;rw[eP hc];split
 . have:0<=(hi - lo - 1) / c:=Int.ediv_nonneg ⋯ ⋯;lia
 . rfl
theorem yh{a b c:Int}(h1 : -(2 ^ 30)<=a/\a<2 ^ 30)(h2 : -(2 ^ 30)<=b/\b<2 ^ 30)(h3:0<c/\c<2 ^ 30):Builtin.Range.small a b c=true:=by
 have hn:=zI (lo:=a) (hi:=b) h3.1;unfold Builtin.Range.small;rw[hn];have hb:(lW a b c:Int)<=2 ^ 31+1:=by
  unfold lW;split
  . have:(b - a - 1) / c<=b - a - 1:=Int.ediv_le_self _ ⋯;lia
  . decide
 have hm:(lW a b c:Int) * c<=(2 ^ 31+1) * 2 ^ 30:=Int.mul_le_mul hb ⋯ ⋯ ⋯;have hm0:0<=(lW a b c:Int) * c:=Int.mul_nonneg ⋯ ⋯;have hc0:c > 0:=h3.1;simp only[Builtin.Range.rangeFitsLong,c8,n0,b8,beq_iff_eq,hc0,u7];lia
section
theorem eH.of (h:∀(ah:List (Addr×Obj)) (s:Shared) (σ:Sg) (As M:List Addr) (H:Hp) (Post:Value->Shared->Prop),L2.Inv X ah σ H s->S z g σ As M H->
  (∀v s1,(∀(R:It->Hp->Prop),(∀J H' aG M',S z g1 σ aG M' H'->az M H M' H'->Jt J ao z.K M' H'->R J H')->wpAny (model X.prog X.w) X.A (pyIter v) (PIE X ah σ tg R) X.xe s1)->Post v s1)->wpAny (model X.prog X.w) X.A (eval iter X.env) Post X.xe s):eH X z tg iter g ao g1:=
 ⟨λσ H R=>∃As M,S z g σ As M H/\(∀J H' aG M',S z g1 σ aG M' H'->az M H M' H'->Jt J ao z.K M' H'->R J H'),λah s σ H R I ⟨As,M,st,k⟩=>h ah s σ As M H _ I st λv s1 q=>q R k,λσ As M H R s k=>⟨As,M,s,k⟩⟩
theorem Ln{lo hi st:Int}(h:dF X z [a,b,c] g [.dat (.int lo),.dat (.int hi),.dat (.int st)] g1)(hg:Gl X "range")(hm:X.mg "range"=none)(hs:starEach [a,b,c] X.env=(false,eval a X.env)::starEach [b,c] X.env)(jw:(backTo rp (starEach [b,c] X.env)).any (·.1)=false)
  (h1 : -(2 ^ 30)<=lo/\lo<2 ^ 30) (h2 : -(2 ^ 30)<=hi/\hi<2 ^ 30) (h3:0<st/\st<2 ^ 30):eH X z tg (.Call (.Name "range" p) [a,b,c] [] rp) g (qP lo st (lW lo hi st)) g1:=by
 refine eH.of λah s σ As M H Post I stt k=>?_
 refine Call_ (fF I hg hm boot_range (l9 (h.run I stt λvs us s1 H1 bf M1 I1 r1 q1 q2 q3=>?_) hs jw))
 cases q3 with
 |dat r R=>
  cases R with
  |dat r' R=>
   cases R with
   |dat r'' R=>
    cases R;cases r;cases r';cases r'';cases r1 with
    |cons r rr=>
     cases rr with
     |cons r' rr=>
      cases rr with
      |cons r'' rr=>
       cases rr;obtain⟨t,rfl⟩:=r;obtain⟨t',rfl⟩:=r';obtain⟨t'',rfl⟩:=r'';refine call_range_3 ⋯ (k _ _ λR kR=>?_) (.inl (PyProof.noPylong_small ⋯))
       refine wpAny_pyIter_range (IsRange.new ..) (yh h1 h2 h3) ?_;generalize hh:s1.heap.push { cls:=.type "range",data:=.fields #[.int lo t,.int hi t',.int st t'']}=hp;have I2:L2.Inv X ah σ H1 { s1 with heap:=hp}:=I1.kept λb o e=>hh▸b7 _ e
       refine⟨hp.objs.size,[hp.objs.size],_,Its lo st (lW lo hi st),H1,rfl,I2.kept (t':=s1.toks) λb o e=>b7 _ e,Ca _ lo st _,?_,λb hb=>?_,kR _ H1 bf M1 q1 q2 Sj⟩
       .
        show IsRangeIter _ _ (lo+((0:Nat):Int) * st) (((lW lo hi st:Nat):Int) - ((0:Nat):Int)) st;rw[show lo+((0:Nat):Int) * st=lo by simp,show ((lW lo hi st:Nat):Int) - ((0:Nat):Int)=Builtin.Range.rangeSize lo hi st by rw[zI h3.1];simp]
        exact eA _ rfl
       . cases i6.mp hb;exact I2.xJ (d5 _) (I2.hok.fresh (d5 _))
end
open L2 PySem.W SeqAt
section
theorem yj(hit:s.heap.IsTupleIter it t i)(ht:s.heap.IsTuple t ao)(hx:ao[i]?=some x)(hQ:∀h',h'.IsTupleIter it t (i+1)->Heap.SameBut it s.heap h'->Q x { s with heap:=h'}):wpAny (model prog w) A (Builtin.SmallTypes.nextOf (.ref it)) Q E s:=by
 obtain⟨o,ho,hc,hd⟩:=id hit;obtain⟨ol,XC,_,nl,hdl⟩:=ht;unfold Builtin.SmallTypes.nextOf;refine a9 (y6 (name:=Str.ofString "__next__") hit.typeIs wT (An wT hit.typeIs F.entry_tuple_iterator_next ?_ (F.args_tuple_iterator_next_1 _)));show wpAny _ _ (field (.ref it) 0 >>= _) _ _ s;refine a9 (BE ho hd (x:=.ref t) rfl ?_);show wpAny _ _ (if (Value.ref t==Value.none)=true then _ else _) _ _ s
 rw[eQ (show ¬ ((Value.ref t==Value.none)=true)from hU)]
 show wpAny _ _ (field (.ref it) 1 >>= _) _ _ s;refine a9 (BE ho hd (x:=.int i 0) rfl ?_);show wpAny _ _ (seqItems? (.ref t) >>= _) _ _ s;refine a9 (BM XC hdl ?_);simp only[nN,hx];refine a9 (wpAny_setField ho hd ⋯ (d6 ⟨x,rfl,d6 (hQ _ ⟨_,t5 _ ho (Obj.isFreed_of_fields (Obj.data_mapFields hd _)),(Obj.cls_mapFields ..).trans hc,?_⟩ (Heap.SameBut.update ..))⟩));rw[Obj.data_mapFields hd];simp[rawInt]
theorem qQ(hh:A.handled=none)(hit:s.heap.IsTupleIter it t i)(ht:s.heap.IsTuple t ao)(hx:ao[i]?=none)
  (hE:∀h' e,Heap.ExtBut it s.heap h'->(∃o,h'.get? e=some o/\o.cls=.type "StopIteration")->E (.ref e) { s with heap:=h'}):wpAny (model prog w) A (Builtin.SmallTypes.nextOf (.ref it)) Q E s:=by
 obtain⟨o,ho,hc,hd⟩:=id hit;obtain⟨ol,XC,_,nl,hdl⟩:=ht;unfold Builtin.SmallTypes.nextOf;refine a9 (y6 (name:=Str.ofString "__next__") hit.typeIs wT (An wT hit.typeIs F.entry_tuple_iterator_next ?_ (F.args_tuple_iterator_next_1 _)));show wpAny _ _ (field (.ref it) 0 >>= _) _ _ s;refine a9 (BE ho hd (x:=.ref t) rfl ?_);show wpAny _ _ (if (Value.ref t==Value.none)=true then _ else _) _ _ s
 rw[eQ (show ¬ ((Value.ref t==Value.none)=true)from hU)]
 show wpAny _ _ (field (.ref it) 1 >>= _) _ _ s;refine a9 (BE ho hd (x:=.int i 0) rfl ?_);show wpAny _ _ (seqItems? (.ref t) >>= _) _ _ s;refine a9 (BM XC hdl ?_);simp only[nN,hx];refine a9 (wpAny_rule (a9 (wpAny_setField ho hd ⋯ ?_)));show wpAny _ _ (newExc (.type "StopIteration") [] >>= _) _ _ _;refine a9 ?_;simp only[newExc,newTuple];refine a9 (oT (a9 (m:=firstArgMember _ _) (wpAny_of_eq (a:=Value.none) (by first |rfl | (simp only[firstArgMember];rfl)) (oT ?_ (by size_fits)))) (by size_fits))
 simp only[raiseNew];refine a9 (wpAny_handled ?_)
 first |rw[show A.in1.handled=none from hh] |rw[hh]
 exact a9 (d6 (wpAny_throw (hE _ _ (((Heap.SameBut.update ..).extBut.push _).push _) ⟨_,eA _ rfl,rfl⟩)))
theorem Sl(hh:A.handled=none)(it t:Addr)(eY:t≠it)(ao:Array Value):Draws prog w A it [it,t] ao.size (λi v=>ao[i]?=some v) (λi h=>h.IsTupleIter it t i/\h.IsTuple t ao) where
 live:=λ_ _ st=>let ⟨o,ho,_⟩:=st.1;⟨o,ho⟩
 frame:=λ_ _ _ st hk=>by
  obtain⟨⟨o,ho,r⟩,⟨o',ho',r'⟩⟩:=st;exact⟨⟨o,hk it ⋯ o ho,r⟩,⟨o',hk t ⋯ o' ho',r'⟩⟩
 item:=λi s Q E hi st hQ=>yj st.1 st.2 (x:=ao[i]) (by simp[hi]) λh' hit' hs'=>hQ _ h' s.toks (by simp[hi]) ⟨hit',IsTup.extBut st.2 hs'.extBut eY⟩ hs'
 done:=λs Q E st hE=>qQ hh st.1 st.2 ⋯ hE
theorem vM(l:Addr)(ao:Array Value)(n:Nat)(dct:Option Addr)(sl:Array (Option Value)) :
  Meets (Builtin.«enumerate.__new__» ⟨[.type "enumerate",.ref l],[]⟩) (λ_ R s=>s.heap.get? l=some { cls:=.type "tuple",dict:=dct,data:=.seq ao n,slots:=sl}/\R (.ok (.ret (.ref (s.heap.push { cls:=.type "tuple_iterator",data:=.fields #[.ref l,.int 0 0]}).objs.size)))
    { s with heap:=(s.heap.push { cls:=.type "tuple_iterator",data:=.fields #[.ref l,.int 0 0]}).push { cls:=.type "enumerate",data:=.fields #[.none,.bool false,.ref s⁻¹,rawInt 0,.none,.none]}}):=
 .of_wp λprog w A R s h=>by
  obtain⟨hp,g,d,tk,os⟩:=s;obtain⟨hl,h⟩:=h;have hsub:=sub_enumerate;have hL:Heap.IsTuple (Shared.heap ⟨hp,g,d,tk,os⟩) l ao:=⟨_,hl,rfl,n,rfl⟩
  wp_walk using AX hl
  refine wpAny_stack_any λst=>d6 ?_
  split
  . rename_i c _ _ _ _ _;cases (c==Value.type "enumerate") <;> (wp_walk using AX hl,t8 hL;exact⟨_,rfl,h⟩)
  .
   wp_walk using AX hl,t8 hL
   exact⟨_,rfl,h⟩
theorem ym(hL:s.heap.IsTuple l ao)
  (h:∀h',IsEnum h' (s⁻¹+1) s⁻¹ 0 .none->h'.IsTupleIter s⁻¹ l 0->h'.objs.size=s⁻¹+2->(∀b o,s.heap.get? b=some o->h'.get? b=some o)->Q (.ref (s⁻¹+1)) { s with heap:=h'}) :
  wpAny (model prog w) A (call (.type "enumerate") [.ref l]) Q E s:=by
 obtain⟨⟨c,dct,dt,sl⟩,hl,hc,n,hd⟩:=hL;cases (show c=.type "tuple" from hc)
 cases (show dt=.seq ao n from hd)
 refine callType_new F.called_enumerate ⋯ (F.typeCall_enumerate_1 _) (F.newCall_enumerate_1 _) (λobj=>F.args_object_init_2 obj _) F.entry_enumerate_new (vM l ao n dct sl) ⟨hl,?_⟩
 generalize hq:s.heap.push { cls:=.type "tuple_iterator",data:=.fields #[.ref l,.int 0 0]}=h1;have hz:h1.objs.size=s⁻¹+1:=by rw[<- hq];exact oC ..
 have hi:h1.get? s⁻¹=some { cls:=.type "tuple_iterator",data:=.fields #[.ref l,.int 0 0]}:=by rw[<- hq];exact eA _ rfl
 have he:IsEnum (h1.push { cls:=.type "enumerate",data:=.fields #[.none,.bool false,.ref s⁻¹,rawInt 0,.none,.none]}) h1.objs.size s⁻¹ 0 .none:=eA h1 rfl;show _/\_;rw[hz]at he ⊢
 exact⟨⟨_,he,rfl⟩,h _ he ⟨_,b7 _ hi,rfl,rfl⟩ (by rw[oC,hz]) λb o x=>b7 _ (by rw[<- hq];exact b7 _ x)⟩
end
open L2 PySem.W SeqAt
def Lp(tp:Bool)(K:Frag)(H:Hp)(a:Addr)(xs:List V):Prop:=match tp with |true=>fy K H a xs |false=>bY K H a xs
def O5(tp:Bool)(h:Heap)(it a:Addr)(i:Nat):Prop:=match tp with |true=>h.IsTupleIter it a i |false=>h.IsListIter it a i
def AtX(tp:Bool)(h:Heap)(a:Addr)(aA:List Value):Prop:=match tp with |true=>h.IsTuple a aA.toArray |false=>h.IsList a aA.toArray
section
theorem Lp.real(I:L2.Inv X ah σ H s)(h:Lp tp X.K H a xs):∃aA:List Value,Vals xs aA/\AtX tp s.heap a aA/\xs.length<=sizeLine:=by
 cases tp with
 |true=>exact I.tuple h
 |false=>obtain⟨aA,r,pl,hz⟩:=I.list h;exact⟨aA,r,pl.isList,hz⟩
theorem Lp.inj(I:L2.Inv X ah σ H s)(h:Lp tp X.K H a xs)(h':Lp tp X.K H a ys):xs=ys:=by
 cases tp with
 |true=>exact I.rm h h'
 |false=>exact I.uV h h'
theorem O5.obj(x:O5 tp h it a i):∃o vs,h.get? it=some o/\o.data=.fields vs:=by
 cases tp with
 |true=>obtain⟨o,e,_,d⟩:=(show h.IsTupleIter it a i from x);exact⟨o,_,e,d⟩
 |false=>obtain⟨o,e,_,d⟩:=(show h.IsListIter it a i from x);exact⟨o,_,e,d⟩
theorem O5.keep(x:O5 tp h it a i)(k:∀o,h.get? it=some o->h'.get? it=some o):O5 tp h' it a i:=by
 cases tp with
 |true=>obtain⟨o,e,d⟩:=(show h.IsTupleIter it a i from x);exact⟨o,k o e,d⟩
 |false=>obtain⟨o,e,d⟩:=(show h.IsListIter it a i from x);exact⟨o,k o e,d⟩
theorem Gv(hh:A.handled=none)(eY:a≠it)(aA:List Value):Draws prog w A it [it,a] aA.length (λi v=>aA[i]?=some v) (λi h=>O5 tp h it a i/\AtX tp h a aA):=by
 cases tp with
 |true=>have:=Sl (prog:=prog) (w:=w) hh it a eY aA.toArray;simp only[b6,List.getElem?_toArray]at this;exact this
 |false=>have:=Draws.list (prog:=prog) (w:=w) hh it a eY aA.toArray;simp only[b6,List.getElem?_toArray]at this;exact this
end
def Ite(tp:Bool)(K:Frag)(a:Addr):It:=
 ⟨λi H=>∃xs x,Lp tp K H a xs/\xs[i]?=some x,λi H x H'=>∃p y,(∀xs,Lp tp K H a xs->xs[i]?=some y)/\H p=none/\x=.ref p/\H'=upd H p (.tup [.int i,y]),λi H=>∃xs,Lp tp K H a xs/\xs.length=i⟩
theorem Cb{P:Program}{w:World}{K:Frag}{tp:Bool}{es:List Expr}{k:Nat}{pos:Pos}(e it a:Addr)(hei:e≠it):Turn P w K (.Tuple es k pos) (Ite tp K a) [e,it] e (λi h=>(∃old,IsEnum h e it i old)/\O5 tp h it a i) where
 mem:=by simp
 obj:=λi h st b hb=>by
  obtain⟨⟨old,he⟩,hi⟩:=st;rcases dS.mp hb with rfl |hb
  . exact⟨_,he,λv z=>nomatch (show Data.fields _=Data.cell v from z)⟩
  . cases i6.mp hb;obtain⟨o,vs,e1,e2⟩:=hi.obj;exact⟨o,e1,λv z=>by rw[e2]at z;cases z⟩
 keep:=λi h h' st k=>by
  obtain⟨⟨old,he⟩,hi⟩:=st;exact⟨⟨old,k e ⋯ _ he⟩,hi.keep λo q=>k it ⋯ o q⟩
 item:=by
  intro X hP hw hK hc i ah s σ H E I hf st hg;subst hP hw hK;obtain⟨⟨old,he⟩,hi⟩:=st;obtain⟨xs,x,hq,hx⟩:=hg;obtain⟨aA,rv,hat,hz⟩:=hq.real I;obtain⟨f0,f1,f2,f3,f4,f5⟩:=hf e ⋯;obtain⟨g0,g1,g2,g3,g4,g5⟩:=hf it ⋯;have hae:a≠e:=λz=>by
   subst z;cases tp with
   |true=>obtain⟨o,e1,e2,_⟩:=(show s.heap.IsTuple a aA.toArray from hat);rw[he]at e1;cases e1;exact absurd (show Value.type "enumerate"=Value.type "tuple" from e2) ⋯
   |false=>obtain⟨o,e1,e2,_⟩:=(show s.heap.IsList a aA.toArray from hat);rw[he]at e1;cases e1;exact absurd (show Value.type "enumerate"=Value.type "list" from e2) ⋯
  have hai:a≠it:=λz=>by
   subst z;cases tp with
   |true=>obtain⟨o,e1,e2,_⟩:=(show s.heap.IsTuple a aA.toArray from hat);obtain⟨o',e3,e4,_⟩:=(show s.heap.IsTupleIter a a i from hi);rw[e1]at e3;cases e3;rw[e2]at e4;exact absurd e4 ⋯
   |false=>obtain⟨o,e1,e2,_⟩:=(show s.heap.IsList a aA.toArray from hat);obtain⟨o',e3,e4,_⟩:=(show s.heap.IsListIter a a i from hi);rw[e1]at e3;cases e3;rw[e2]at e4;exact absurd e4 ⋯
  have hlt:i<aA.length:=by rw[<- rv.length];exact (b0.mp hx).1
  refine wpAny_pyNext_enum_itemD (A:=X.A) (Gv (tp:=tp) (A:=X.A.in1) (I.ok.hd hc) hai aA) he ⟨hi,hat⟩ hlt hei (by simp[hei,tP hae]) λu h1 tk hu hout fh ht DY hkp=>⟨_,rfl,?_⟩
  refine wpAny_letOwnedTupleGo_enum hout λh2 he2 hs2=>?_
  replace hs2:Heap.SameBut e h1 h2:=hs2;obtain⟨u',e1,ru⟩:=rv.get hx;rw[hu]at e1;cases e1;have hpe:s⁻¹≠e:=Nat.ne_of_gt (eD he);obtain⟨oi,vsi,ei,di⟩:=fh.1.obj;have ei2:h2.get? it=some oi:=(hs2.2 it (tP hei)).trans ei;obtain⟨oi0,_,ei0,_⟩:=hi.obj;have k1:∀b o,b≠e->s.heap.get? b=some o->(s.heap.update e λ_=>_).get? b=some o:=λb o hb q=>(i9 s.heap (λ_=>({ cls:=.type "enumerate",dict:=none,data:=.fields #[.none,.bool false,.ref it,rawInt ((i:Int)+1),.none,u],slots:=#[]}:Obj)) (tP hb)).trans q
  have I1:=I.turned (t':=s.toks) k1 f0 f1 f3 f4 f5;have k2:∀b o,b≠it->(s.heap.update e λ_=>_).get? b=some o->((s.heap.update e λ_=>({ cls:=.type "enumerate",dict:=none,data:=.fields #[.none,.bool false,.ref it,rawInt ((i:Int)+1),.none,u],slots:=#[]}:Obj)).update it λ_=>oi).get? b=some o:=λb o hb q=>(i9 _ (λ_=>oi) (tP hb)).trans q
  have I2:=I1.turned (t':=tk+1) k2 g0 g1 g3 g4 g5;have hse:(s.heap.update e λ_=>({ cls:=.type "enumerate",dict:=none,data:=.fields #[.none,.bool false,.ref it,rawInt ((i:Int)+1),.none,u],slots:=#[]}:Obj)).get? e=some _:=t5 _ he rfl
  have k3:∀b o,((s.heap.update e λ_=>({ cls:=.type "enumerate",dict:=none,data:=.fields #[.none,.bool false,.ref it,rawInt ((i:Int)+1),.none,u],slots:=#[]}:Obj)).update it λ_=>oi).get? b=some o->h2.get? b=some o:=λb o q=>by
   by_cases hb:b=it
   .
    subst hb;have z:=t5 (λ_=>oi) (k1 b oi0 (tP hei) ei0) (Obj.isFreed_of_fields di)
    rw[z]at q;cases q;exact ei2
   .
    rw[i9 _ _ (tP hb)]at q;by_cases hb2:b=e
    . subst hb2;rw[hse]at q;cases q;exact he2
    . rw[i9 _ _ (tP hb2)]at q;exact (hs2.2 b hb2).trans (hkp b o hb2 hb q)
  have hsz2:((s.heap.update e λ_=>({ cls:=.type "enumerate",dict:=none,data:=.fields #[.none,.bool false,.ref it,rawInt ((i:Int)+1),.none,u],slots:=#[]}:Obj)).update it λ_=>oi).objs.size<=s⁻¹:=by rw[AR,AR];exact d5 _
  have I3:=I2.laid (a:=s⁻¹) (o:=.tup [.int i,x]) (t':=tk+1) k3 hsz2 ⟨by rw[mI];show 2<=16777216;decide,[.int i tk,u],.cons ⟨tk,rfl⟩ (.cons ru .nil),⟨_,(hs2.2 _ hpe).trans ht,⟨rfl,_,rfl⟩,rfl⟩⟩
  have hfr:H s⁻¹=none:=I.hok.fresh (d5 _);refine⟨.ref s⁻¹,_,I3,rfl,⟨_,x,λys hy=>by rw[hy.inj I hq];exact hx,hfr,rfl,rfl⟩,⟨⟨u,he2⟩,fh.1.keep λo q=>(hs2.2 it (tP hei)).trans q⟩,λb hb=>?_⟩
  have hbn:b≠s⁻¹:=λz=>by
   rcases dS.mp hb with rfl |hb
   . exact hpe z.symm
   . cases i6.mp hb;exact absurd (eD ei0) (by rw[z];exact mB _)
  rw[aF hbn];exact (hf b hb).1
 done:=by
  intro X hP hw hK hc i ah s σ H E I hf st hg;subst hP hw hK;obtain⟨⟨old,he⟩,hi⟩:=st;obtain⟨xs,hq,hx⟩:=hg;obtain⟨aA,rv,hat,hz⟩:=hq.real I;obtain⟨g0,g1,g2,g3,g4,g5⟩:=hf it ⋯;have hai:a≠it:=λz=>by
   subst z;cases tp with
   |true=>obtain⟨o,e1,e2,_⟩:=(show s.heap.IsTuple a aA.toArray from hat);obtain⟨o',e3,e4,_⟩:=(show s.heap.IsTupleIter a a i from hi);rw[e1]at e3;cases e3;rw[e2]at e4;exact absurd e4 ⋯
   |false=>obtain⟨o,e1,e2,_⟩:=(show s.heap.IsList a aA.toArray from hat);obtain⟨o',e3,e4,_⟩:=(show s.heap.IsListIter a a i from hi);rw[e1]at e3;cases e3;rw[e2]at e4;exact absurd e4 ⋯
  have hl:i=aA.length:=by rw[<- rv.length];exact hx.symm
  subst hl;exact wpAny_pyNext_enum_endD (A:=X.A) (Gv (tp:=tp) (A:=X.A.in1) (I.ok.hd hc) hai aA) he ⟨hi,hat⟩ λh' eb=>⟨rfl,I.turned (t':=s.toks) (λb o hb q=>eb b o hb q) g0 g1 g3 g4 g5⟩
 self:=λA i s Q E st h=>by
  obtain⟨⟨old,he⟩,_⟩:=st;exact wpAny_pyIter_enum he h
section
def nh(l:List D):List D:=l.zipIdx.map λp=>.tup [.int (p.2:Nat),p.1]
theorem Cd{l:List D}{n:Nat}{d:D}(h:(nh l)[n]?=some d):∃x,l[n]?=some x/\d=.tup [.int n,x]:=by
 unfold nh at h;rw[nE]at h;cases e:l.zipIdx[n]? with
 |none=>rw[e]at h;cases h
 |some q=>
  rw[e]at h;cases h;rw[List.getElem?_zipIdx]at e;cases e2:l[n]? with
  |none=>rw[e2]at e;cases e
  |some x=>rw[e2]at e;cases e;exact⟨x,rfl,by simp⟩
theorem Ce(l:List D):(nh l).length=l.length:=by simp[nh]
theorem Lq{d:D}{l:List D}(hK:z.K=X.K)(ha:dF X z [e] g [.dat d] g1)(hs:bF d=some l)(hg:Gl X "enumerate")(hm:X.mg "enumerate"=none)(fh:starEach [e] X.env=[(false,eval e X.env)]) :
  eH X z (.Tuple es k pos) (.Call (.Name "enumerate" p) [e] [] rp) g (nh l) g1:=by
 refine eH.of λah s σ As M H Post I stt kk=>?_
 refine Call_ (fF I hg hm boot_enumerate (l9 (ha.run I stt λvs us s1 H1 bf M1 I1 r1 q1 q2 q3=>?_) fh rfl))
 cases q3 with
 |dat rp0 R=>
  cases R;obtain⟨u,rfl,ru⟩:=vals1 r1;have main:∀(tp:Bool) (a:Addr) (xs:List V) (aA:List Value),u=.ref a->AtX tp s1.heap a aA->aH z.K M1 H1 l xs->(∀M2 H2,az M1 H1 M2 H2->Lp tp X.K H2 a xs)->
    (∀Q:Value->Shared->Prop,(∀h',IsEnum h' (s1⁻¹+1) s1⁻¹ 0 .none->O5 tp h' s1⁻¹ a 0->h'.objs.size=s1⁻¹+2->(∀b o,s1.heap.get? b=some o->h'.get? b=some o)->Q (.ref (s1⁻¹+1)) { s1 with heap:=h'})->
     wpAny (model X.prog X.w) X.A (call (.type "enumerate") [.ref a]) Q X.xe s1)->wpAny (model X.prog X.w) X.A (call (.type "enumerate") [u]) Post X.xe s1:=λtp a xs aA hu hat rr hsq hcall=>by
   subst hu;refine hcall _ λh' he hi DY hk=>kk _ _ λR kR=>?_
   refine wpAny_pyIter_enum he ?_;have I2:L2.Inv X ah σ H1 { s1 with heap:=h'}:=I1.kept (t':=s1.toks) hk;refine⟨_,[s1⁻¹+1,s1⁻¹],_,Ite tp X.K a,H1,rfl,I2,Cb _ _ a (Nat.succ_ne_self _),⟨⟨_,he⟩,hi⟩,λb hb=>?_,kR _ H1 bf M1 q1 q2 λM2 H2 aN=>?_⟩
   .
    rcases dS.mp hb with rfl |hb
    . exact I1.xJ (wE _) (I1.hok.fresh (wE _))
    . cases i6.mp hb;exact I1.xJ (d5 _) (I1.hok.fresh (d5 _))
   .
    have K1:=rr.stay aN;refine⟨λn d hd=>?_,xs,hsq M2 H2 aN,by rw[Ce];exact rr.length.symm⟩
    obtain⟨x,e1,rfl⟩:=Cd hd;obtain⟨v,e2,e3⟩:=K1.get e1;refine⟨⟨xs,v,hsq M2 H2 aN,e2⟩,λy H' hy z' g' σ' aG hz' s'=>?_⟩
    obtain⟨p,y',w1,w3,rfl,rfl⟩:=hy;have w2:=w1 xs (hsq M2 H2 aN);rw[e2]at w2;cases w2;refine⟨s'.laid w3,az.laid w3,.tup (.inl ⟨s'.fresh w3,.inl aI⟩) (.cons (.int _) (.cons (e3.stay (az.laid w3)) .nil))⟩
  cases rp0 with
  |@lst _ a xs hb rr=>cases hs;cases ru;obtain⟨aA,rv,pl,hz⟩:=I1.list (bY.of hb.2);exact main false a xs aA rfl pl.isList rr (λM2 H2 aN=>bY.of (aN _ _ hb.2 hb.1).1) λQ h=>call_enumerate_list pl.isList h
  |@tup _ a xs hb rr=>
   cases hs;cases ru;obtain⟨aA,rv,pl,hz⟩:=I1.tuple (hK▸hb.sq);refine main true a xs aA rfl pl rr (λM2 H2 aN=>?_) λQ h=>ym pl h
   have:TupAt z.K M2 H2 a xs:=by
    rcases hb with ⟨na,hr⟩ |hk
    . exact .inl (aN.rd na hr)
    . exact .inr hk
   exact hK▸this.sq
  |@fix _ a xs hb rr=>
   cases hs;cases ru;obtain⟨aA,rv,pl,hz⟩:=I1.list (hK▸hb.sq);refine main false a xs aA rfl pl.isList rr (λM2 H2 aN=>?_) λQ h=>call_enumerate_list pl.isList h
   have:oO z.K M2 H2 a xs:=by
    rcases hb with ⟨na,o,hr⟩ |hk
    . exact .inl ⟨(aN _ _ hr na).2,o,(aN _ _ hr na).1⟩
    . exact .inr hk
   exact hK▸this.sq
  |_=>cases hs
end
open L2 PySem.W SeqAt
section
theorem Cg(hc:X.calm=true)(hK:z.K=X.K)(hN:X.N[i]?=some x)(hv:mQ X.env.scope x)(hd:(x==("__debug__":Str))=false)(eS:(x==("__classdict__":Str))=false)
  (Sq:X.N[j]?=some y) (hv2:mQ X.env.scope y) (hd2:(y==("__debug__":Str))=false) (Ss:(y==("__classdict__":Str))=false)
  (h:aB X z e g (.dat (.tup [d1,d2])) g1) (uM:g1[i]?=some (.own l0)) (h2:aB X z ix g1 (.dat (.int n1)) g2) (Xp:g2[i]?=some (.own l)) (hj:nR l.length n1=some m1)
  (hg3:(g2.set i (.own (l.set m1 d1)))[j]?=some (.own l1)) (h3:aB X z XF (g2.set i (.own (l.set m1 d1))) (.dat (.int n2)) g3) (hg4:g3[j]?=some (.own l2)) (hj2:nR l2.length n2=some m2)
  (ha:∀v,assign (.Subscript (.Name x pn) ix cg) X.env v=(do
   let ov <- holding [v] (eval (.Name x pn) X.env)
   let iv <- holding [v,ov] (eval ix X.env)
   standAt cg
   holding [v,ov,iv] (setItem ov iv v)
   release [v,ov,iv] []))
  (ha2:∀v,assign (.Subscript (.Name y Gw) XF iC) X.env v=(do
   let ov <- holding [v] (eval (.Name y Gw) X.env)
   let iv <- holding [v,ov] (eval XF X.env)
   standAt iC
   holding [v,ov,iv] (setItem ov iv v)
   release [v,ov,iv] []))
  (hs:swapsWithSole [.Tuple [.Subscript (.Name x pn) ix cg,.Subscript (.Name y Gw) XF iC] kt pt] e pos.line X.env=pure false) (hw:swappedStores [.Tuple [.Subscript (.Name x pn) ix cg,.Subscript (.Name y Gw) XF iC] kt pt] e X.env=pure none) :
  g7 X z (.Assign [.Tuple [.Subscript (.Name x pn) ix cg,.Subscript (.Name y Gw) XF iC] kt pt] e pos) g .nx (g3.set j (.own (l2.set m2 d2))):=by
 obtain⟨t,q,k⟩:=h;obtain⟨t2,q2,k2'⟩:=h2;obtain⟨t3,q3,k3⟩:=h3;refine⟨_,xH q (xF (n:=2) hc (ig (xG (dH hN hv hd eS) q2 set_list ha) (ig (xG (dH Sq hv2 hd2 Ss) q3 set_list ha2) sQ rfl) rfl) rfl rfl) hs hw rfl,λσ As M H E s kE=>k σ As M H _ s λv H1 bf M1 s1 eu R1=>?_⟩
 have R1':Rep z.K M1 H1 (.tup [d1,d2]) v:=R1;cases R1' with
 |@tup _ a xs ha rr=>
  cases rr with
  |@cons _ _ v1 _ r1 rr=>
   cases rr with
   |@cons _ _ v2 _ r2 rr=>
    cases rr;refine⟨a,_,rfl,hK▸ha.sq,rfl,v1,_,rfl,?_⟩;obtain⟨p,ys,e1,e2,e3,e4⟩:=s1.sl.at uM;refine⟨.ref p,e1,k2' σ bf M1 H1 _ s1 λw H2 bK M2 s2 aN R2=>?_⟩
    obtain⟨p',ys',f1,f2,f3,f4⟩:=s2.sl.at Xp;rw[e1]at f1;injection f1 with f1;injection f1 with f1;injection f1 with f1;subst f1;have R2':Rep z.K M2 H2 (.int n1) w:=R2;cases R2';refine⟨p,ys',n1,m1,rfl,rfl,f3,by rw[<- f4.length];exact hj,?_⟩
    obtain⟨s3,eX⟩:=s2.write Xp e1 (aH.set (Rep.stay aN r1) m1 f4);refine⟨v2,[],rfl,?_⟩;obtain⟨p2,zs,e5,e6,e7,e8⟩:=s3.sl.at hg3;refine⟨.ref p2,e5,k3 σ bK M2 _ _ s3 λw' H4 jI M4 s4 qO R4=>?_⟩
    obtain⟨p2',zs',f5,f6,f7,f8⟩:=s4.sl.at hg4;rw[e5]at f5;injection f5 with f5;injection f5 with f5;injection f5 with f5;subst f5;have R4':Rep z.K M4 H4 (.int n2) w':=R4;cases R4';refine⟨p2,zs',n2,m2,rfl,rfl,f7,by rw[<- f8.length];exact hj2,?_⟩
    obtain⟨s5,lC⟩:=s4.write hg4 e5 (aH.set (Rep.stay (aN.trans (eX.trans qO)) r2) m2 f8);exact⟨rfl,kE σ jI M4 _ s5 (eu.trans (aN.trans (eX.trans (qO.trans lC))))⟩
end
end Ev
namespace HT
open PySem PyProof.Rows
end HT
namespace Ev
open L2
section
noncomputable abbrev m1(j:Nat)(p1 p3:Pos):Expr:=.UnaryOp .USub (.Constant (.int 1) j p1) p3
end
open L2 PySem.W SeqAt
open L2 PySem.W SeqAt
open L2 PySem.W SeqAt
end Ev
namespace L2
def zJ(T:List Addr)(H:Hp):Prop:=∀b,(b∈T/\H b=some (.Dz #[]))\/(b∉T/\(H b=none\/∃o xs,H b=some (.Dy o (.lst xs))))
theorem Ci{P:Program}{w:World}{K:Frag}{mg mb:Str->Option Value}{CX:Es}{k:Nat}{fa a:Addr}{fd:FuncData}{x:Str}{sp:Sp}{s₁:Shared}{vs:List Value}{ns:List Int}{T:List Addr}
  (KX:K.In s₁.heap) (hT:∀q∈T,(∃c,s₁.heap.TableAt c q #[])/\K.lookup q=none) (hns:s₁.heap.Ns mainGlobals mg) (hb:s₁.heap.Ns builtinsNs mb) (hbb:∀x:Str,x≠ "__name__" ->mb x=bootBuiltins x) (hlim:s₁.heap.NoLimit) (hg:s₁.gens = #[])
  (ha:s₁.heap.get? a=some { cls:=.type "list",data:=.seq vs.toArray}) (hi:IntsAre vs ns) (hl:ns.length<=sizeLine) (hr:fX k callerA)
  (F:∀base:Heap,K.In base->base.Ns mainGlobals mg->qF P w K mg base CX k fa fd [x] sp) (hbind:∀(s:Shared) (u:Value),BindsTo s fd ⟨[u],[]⟩ [(x,u)])
  (Vm:∀H:Hp,zJ T H->bY K H a (ns.map V.int)->sp [.ref a] H (λv _=>v=.bl true) λ_ _ _=>False)
  (hCX:∀H e s',CX [] H s₁ (λ_ _ _=>False) e s'->False) :
  codeAny (model P w) callerA (.call (.ref fa) ⟨[.ref a],[]⟩) (λr s'=>r=.ok (.ret (.bool true))/\OldK s₁.heap s'.heap/\s'.os=s₁.os/\AllBare s'.gens) s₁:=by
 have rv:=iY hi;have lenV:=hi.length;have aT:a∉T:=λh=>by
  obtain⟨⟨c,_,e⟩,_⟩:=hT a h;rw[ha]at e;cases e
 have core:∀H:Hp,zJ T H->bY K H a (ns.map V.int)->oq P w H s₁.heap->(∀b,H b≠none->b=a\/b∈T)->(H a≠none->K.lookup a=none)->
   codeAny (model P w) callerA (.call (.ref fa) ⟨[.ref a],[]⟩) (λr s'=>r=.ok (.ret (.bool true))/\OldK s₁.heap s'.heap/\s'.os=s₁.os/\AllBare s'.gens) s₁:=by
  intro H hO hS hok hA hK;have zK:∀{b:Addr}{o:Obj},s₁.heap.get? b=some o->H b=none->(sP s₁.heap H).get? b=some o:=λe n=>Ed e n
  have WQ:∀{b:Addr}{o:Obj}{es:Array DictEntry}{ep:Nat},s₁.heap.get? b=some o->o.data=.dict es ep->H b=none:=λ{b o es ep} e d=>by
   cases q:H b with
   |none=>rfl
   |some u=>
    rcases hA b (by rw[q];simp)with e' |e'
    . subst e';rw[ha]at e;cases e;have d':Data.seq vs.toArray _=Data.dict es ep:=d;cases d'
    . obtain⟨⟨c,_,e2⟩,_⟩:=hT b e';rw[e]at e2;cases e2;have d':Data.fields #[]=Data.dict es ep:=d;cases d'
  have Zt:∀{b:Addr}{m:Str->Option Value},s₁.heap.Ns b m->(sP s₁.heap H).Ns b m:=λ{b m} ⟨o,es,ep,e,d,r⟩=>⟨o,es,ep,zK e (WQ e d),d,r⟩
  have O6:K.In (sP s₁.heap H):=λb o e=>zK (KX b o e) (by
   cases q:H b with
   |none=>rfl
   |some u=>
    rcases hA b (by rw[q];simp)with e' |e'
    . subst e';rw[hK (by rw[q];simp)]at e;cases e
    .
     rw[(hT b e').2]at e;cases e)
  have hM:Mod K mg (sP s₁.heap H):=⟨O6,Zt hns,⟨mb,Zt hb,hbb⟩,let ⟨mc,h1,h2⟩:=hlim;⟨mc,Zt h1,h2⟩⟩
  have e0:J2 P w K mg (sP s₁.heap H) callerA [] s₁ H:=⟨rfl,hM,λb o e=>JB e,Nat.le_of_eq (Ar _ _),trivial,λb hb=>absurd (show b∈([]:List Addr)from hb) ⋯,hok,.of_eq hg⟩
  refine codeAny_mono ((F _ O6 (Zt hns)).run callerA [] s₁ H ⟨[.ref a],[]⟩ [.ref a] [.ref a] _ _ hr e0 (hbind s₁ (.ref a)) (.cons rfl .nil) (Vm H hO hS)) λr s' h=>?_
  cases r with
  |error e=>exact (hCX H e s' h).elim
  |ok fl=>
   cases fl with
   |next=>exact False.elim h
   |brk=>exact False.elim h
   |cont=>exact False.elim h
   |ret u=>
    obtain⟨v,H',os,bare,un,XH,r',q⟩:=h;have q':v=.bl true:=q;subst q';obtain rfl:u=Value.bool true:=r';have tabs:∀b∈T,∀o,s₁.heap.get? b=some o->∃more,o={ cls:=.none,data:=.fields #[]}/\s'.heap.get? b=some { cls:=.none,data:=.fields more}:=λb hb o e=>by
     obtain⟨⟨c,_,e2⟩,_⟩:=hT b hb;rw[e]at e2;cases e2;rcases hO b with ⟨_,z⟩ |⟨z,_⟩
     . obtain⟨more,z2⟩:=un.sO b _ z;exact⟨_,rfl,XH b _ z2⟩
     . exact absurd hb z
    have rest:∀b,b∉T->∀o,s₁.heap.get? b=some o->s'.heap.get? b=some o:=λb hb o e=>by
     cases q:H b with
     |none=>exact un.keep b o e q (by intro z;exact absurd (show b∈([]:List Addr)from z) ⋯) ⋯
     |some u=>
      rcases hO b with ⟨z,_⟩ |⟨_,z⟩
      . exact absurd z hb
      .
       rcases z with z |⟨ob,xs,z⟩
       . rw[q]at z;cases z
       . have z2:=un.sN b ob _ z;obtain⟨e1,_⟩:=hok b _ z;obtain⟨e2,_⟩:=XH b _ z2;rw[e]at e1;cases e1;exact e2
    refine⟨rfl,⟨λb o e=>?_,λb o e=>?_⟩,os,bare⟩
    .
     by_cases hb:b∈T
     . obtain⟨more,rfl,e2⟩:=tabs b hb o e;obtain⟨⟨c,t⟩,_⟩:=hT b hb;exact .inr (.inl ⟨t.isCodeTable,rfl,#[],more,rfl,by rw[e2];simp⟩)
     . exact .inl (rest b hb o e)
    .
     by_cases hb:b∈T
     . obtain⟨more,rfl,e2⟩:=tabs b hb o e;exact⟨_,e2⟩
     . exact⟨_,rest b hb o e⟩
 have Gx:∀b∈T,s₁.heap.get? b=some { cls:=.none,data:=.fields #[]}:=λb hb=>by
  obtain⟨⟨c,_,e2⟩,_⟩:=hT b hb;exact e2
 cases hk:K.lookup a with
 |some o=>
  have e:=KX a o hk;rw[ha]at e;cases e;refine core (λb=>if b∈T then some (.Dz #[])else none) (λb=>?_) (.inr ⟨_,vs.toArray,_,hk,rfl,rfl,rfl,by rw[b6,lenV];exact hl,by simpa using rv⟩) (λb u z=>?_) (λb z=>?_) λz=>absurd (eQ aT) z
  .
   by_cases hb:b∈T
   . exact .inl ⟨hb,eP hb⟩
   . exact .inr ⟨hb,.inl (eQ hb)⟩
  .
   by_cases hb:b∈T
   . have z':=(eP hb).symm.trans z;cases z';exact Gx b hb
   . have z':=(eQ hb).symm.trans z;cases z'
  .
   by_cases hb:b∈T
   . exact .inr hb
   . exact absurd (eQ hb) z
 |none=>
  refine core (λb=>if b∈T then some (.Dz #[])else if b=a then some (.Dy { cls:=.type "list",data:=.seq vs.toArray} (.lst (ns.map V.int)))else none) (λb=>?_) (.inl (.inr ⟨{ cls:=.type "list",data:=.seq vs.toArray},(eQ aT).trans (eP rfl)⟩)) (λb u z=>?_) (λb z=>?_) λ_=>hk
  .
   by_cases hb:b∈T
   . exact .inl ⟨hb,eP hb⟩
   .
    refine .inr ⟨hb,?_⟩;by_cases hb2:b=a
    . exact .inr ⟨_,_,(eQ hb).trans (eP hb2)⟩
    . exact .inl ((eQ hb).trans (eQ hb2))
  .
   by_cases hb:b∈T
   . have z':=(eP hb).symm.trans z;cases z';exact Gx b hb
   .
    have z1:=(eQ hb).symm.trans z;by_cases hb2:b=a
    . have z':=(eP hb2).symm.trans z1;cases z';subst hb2;exact⟨ha,by rw[dC];exact hl,vs,_,rv,ha⟩
    . have z':=(eQ hb2).symm.trans z1;cases z'
  .
   by_cases hb:b∈T
   . exact .inr hb
   .
    by_cases hb2:b=a
    . exact .inl hb2
    . exact absurd ((eQ hb).trans (eQ hb2)) z
end L2
namespace Ev
open L2
end Ev
namespace PySem
end PySem
namespace Ev
open L2
noncomputable def XJ(K:Frag)(C D:Addr):Bool:=match K.lookup C with
 |some ⟨_,_,.cls cd,_⟩=>cd.mro.contains (.ref D)
 |_=>false
section
variable{g g':G}
theorem Slots.nos'{K:Frag}(σ:Sg):Slots K M H (List.replicate σ.length .no) σ []:=by
 induction σ with
 |nil=>exact .nil
 |cons v σ ih=>exact .no ih
theorem Slots.ni{K:Frag}{i:Nat}{v:Option V}(q:Slots K M H g σ As)(e:g[i]?=some .no):Slots K M H g (σ.set i v) As:=by
 induction q generalizing i with
 |nil=>exact .nil
 |no q ih=>cases i with
  |zero=>exact .no q
  |succ i=>exact .no (ih e)
 |dat r q ih=>cases i with
  |zero=>cases e
  |succ i=>exact .dat r (ih e)
 |own a b q ih=>cases i with
  |zero=>cases e
  |succ i=>exact .own a b (ih e)
theorem S.ni(s:S z g σ As M H)(e:g[i]?=some .no):S z g (σ.set i v) As M H where
 sl:=s.sl.ni e
 nd:=s.nd
 sub:=s.sub
 own:=λj a l e1 e2=>s.own j a l e1 (by
  rw[eR (λq=>by rw[<- q,e]at e1;cases e1)]at e2;exact e2)
 live:=s.live
 keep:=s.keep
 lG:=s.lG
 m0:=s.m0
 bm:=s.bm
 jF:=λp hp=>by
  obtain⟨h1,l,h2⟩:=s.jF p hp;exact⟨by rw[eR (λq=>by rw[<- q,e]at h2;cases h2)];exact h1,l,h2⟩
 tab:=s.tab
 tm:=s.tm
 tt:=s.tt
end
end Ev
namespace L2
end L2
namespace Ev
open L2
structure Lt where
 params:Arguments
 body:Expr
 scope:Scope
 pos:Pos
noncomputable abbrev Lt.ex(l:Lt):Expr:=.Lambda l.params l.body l.scope l.pos
section
theorem S.Gy(s:S z g σ As M H){a:Addr}{xs xs':List V}(hm:a∈M)(hA:a∉As)(h0:z.H0 a=none)(h:H a=some (.lst xs)):S z g σ As M (upd H a (.lst xs')):=s.QZ hm hA h0 h trivial trivial
end
open L2 PySem.W
noncomputable def Dy:Slot->Slot
 |.own l=>.dat (.lst l)
 |s=>s
inductive Vs(X:Cx):List Stmt->List TS->Prop
 |nil:Vs X [] []
 |cons {s:Stmt}{ss:List Stmt}{t:TS}{ts:List TS}:PS X s t->Vs X ss ts->Vs X (s::ss) (t::ts)
def Sv:List TS->TS->TS
 | [],u=>u
 |t::ts,u=>Wh t (Sv ts u)
theorem Vs.pss{X:Cx}{ss rest:List Stmt}{ts:List TS}{u:TS}(h:Vs X ss ts)(hu:uL X rest u):uL X (ss++rest) (Sv ts u):=by
 induction h with
 |nil=>exact hu
 |cons a _ ih=>exact gn a ih
def Cj(X:Cx)(z:Z)(ss:List Stmt)(g:G)(f:Fl)(g':G):Prop:=
 ∃ts,Vs X ss ts/\∀(u:TS) σ As M H (E:Ends),S z g σ As M H->pg z M H { E with nx:=u E} g' f->Sv ts u E σ H
theorem Cj.bk{X:Cx}{z:Z}{ss rest:List Stmt}{g g1 g':G}{f:Fl}(h:Cj X z ss g .nx g1)(h2:fJ X z rest g1 f g'):fJ X z (ss++rest) g f g':=by obtain⟨t2,q2,k2⟩:=h2;obtain⟨t,q,k⟩:=h;exact⟨_,q.pss q2,λσ As M H E s kE=>k t2 σ As M H E s λσ' aG M' H' s' st=>k2 σ' aG M' H' E s' (kE.trans st)⟩
theorem Cj.end{X:Cx}{z:Z}{ss rest:List Stmt}{g g':G}{f:Fl}(h:Cj X z ss g f g')(hn:f≠.nx):fJ X z (ss++rest) g f g':=by
 obtain⟨t,q,k⟩:=h;refine⟨_,q.pss fz,λσ As M H E s kE=>k _ σ As M H E s ?_⟩
 cases f with
 |nx=>exact absurd rfl hn
 |rt r=>exact kE
 |bk=>exact kE
 |ct=>exact kE
def Sw(X:Cx)(tg iter:Expr):TI:=λσ H R=>∃wi,PI X tg iter wi/\wi σ H R
theorem Gz:PI X tg iter (Sw X tg iter):=λah s σ H R I h=>let ⟨wi,q,k⟩:=h;q ah s σ H R I k
section
theorem GC(hC:∀g b g',tO g b g'->dI X z ifs g b g')(hE:∀g d g',Jq g d g'->aB X z cN g (.dat d) g')(hw:eH X z tg iter g2 ao RV)(ht:gG X z tg T)(dj:last∉T.ix)
  (hcp:jo T last tO Jq ao RV g3) {σ:Sg}{As M:List Addr}{H:Hp}{Nn:Sg->Hp->Prop}{D:Addr} (s:S z g2 σ As M H) (hD:σ[last]?=some (some (.ref D)))
  (k:∀σ' aG M' H',S z g3 σ' aG M' H'->az M H M' H'->σ'[last]?=some (some (.ref D))->uN T.ix σ σ'->Nn σ' H'):W7 (Sw X tg iter) (Bu X tg) (FW X ifs) (qL D (Bv X cN)) σ H Nn:=by
 obtain⟨wi,q,kw⟩:=hw;refine⟨wi,q,kw σ As M H _ s λJ H1 bf M1 s1 eu hJ=>?_⟩
 refine⟨λi m σ' H'=>i+m=ao.length/\∃gb Ab Mb,S z gb σ' Ab Mb H'/\az M1 H1 Mb H'/\uN T.ix σ σ'/\σ'[last]?=some (some (.ref D))/\jo T last tO Jq (ao.drop i) gb g3,
  ⟨ao.length,by lia,_,_,_,s1,az.refl _ _,uN.refl _ _,hD,hcp⟩,?_⟩
 rintro i m σ' H' ⟨Xu,gb,Ab,Mb,s2,aN,ag,Bw,cp⟩;obtain⟨hgo,hstop⟩:=hJ Mb H' aN;cases e:ao[i]? with
 |none=>
  have hi:i=ao.length:=by have:=nK.mp e;lia
  subst hi;rw[Ap]at cp;cases cp;exact .inl ⟨hstop,k σ' Ab Mb H' s2 (eu.trans aN) Bw ag⟩
 |some d=>
  obtain⟨go,yl⟩:=hgo i d e;rw[drop_cons e]at cp;have hi:i<ao.length:=(b0.mp e).1;refine .inr ⟨go,λσ' H'=>∃gb Ab Mb,S z gb σ' Ab Mb H'/\az M1 H1 Mb H'/\uN T.ix σ σ'/\σ'[last]?=some (some (.ref D))/\jo T last tO Jq (ao.drop (i+1)) gb g3,
   λBg Bh hN=>⟨m - 1,by lia,by lia,hN⟩,λx H2 hx=>?_⟩
  obtain⟨s3,eX,rx⟩:=yl x H2 hx z gb σ' Ab rfl s2;obtain⟨t,qt,kt⟩:=ht;cases cp with
  |skip e0 hc rest=>
   refine⟨t,qt,kt d gb _ e0 x _ Ab Mb H2 _ s3 rx λσ4 jI s4 XM=>?_⟩
   obtain⟨t2,q2,k2⟩:=hC _ _ _ hc;refine⟨t2,q2,k2 _ jI Mb H2 _ s4 λH5 DP M5 s5 lC=>?_⟩
   exact qK ⟨_,DP,M5,s5,(aN.trans eX).trans lC,ag.trans XM,by rw[XM.2 _ dj];exact Bw,rest⟩
  |take e0 hc he ha hz' rest=>
   refine⟨t,qt,kt d gb _ e0 x _ Ab Mb H2 _ s3 rx λσ4 jI s4 XM=>?_⟩
   obtain⟨t2,q2,k2⟩:=hC _ _ _ hc;obtain⟨t3,q3,k3⟩:=hE _ _ _ he;have K7:σ4[last]?=some (some (V.ref D)):=by rw[XM.2 _ dj];exact Bw
   refine⟨t2,q2,k2 _ jI Mb H2 _ s4 λH5 DP M5 s5 lC=>lE ⟨t3,q3,k3 _ DP M5 H5 _ s5 λv H6 R8 M6 s6 O2 R6=>?_⟩⟩
   obtain⟨a,xs,f1,f2,f3,f4⟩:=s6.sl.at ha;rw[K7]at f1;injection f1 with f1;injection f1 with f1;injection f1 with f1;subst f1;obtain⟨s7,st7⟩:=s6.write ha K7 (f4.append (.cons R6 .nil));exact⟨xs,f3,by rw[<- f4.length,mI];exact hz',_,R8,M6,s7,(((aN.trans eX).trans lC).trans O2).trans st7,ag.trans XM,K7,rest⟩
end
inductive gY(T:Tg)(tO:G->Bool->G->Prop)(In:G->G->Prop):List D->G->G->Prop
 |nil {g:G}:gY T tO In [] g g
 |skip:T.set d g=some g1->tO g1 false g2->gY T tO In l g2 g'->gY T tO In (d::l) g g'
 |take:T.set d g=some g1->tO g1 true g2->In g2 g3->gY T tO In l g3 g'->gY T tO In (d::l) g g'
section
def yp(X:Cx)(z:Z)(N':List Str)(scope:Scope)(tg iter cN:Expr)(ifs:List Expr)(T:Tg)(last:Nat)(g2 g3:G):Prop:=
 ∃ao RV,(∀bk:Bk,eH (X.blk N' scope bk) z tg iter g2 ao RV)/\jo T last (λg b g'=>∀bk:Bk,dI (X.blk N' scope bk) z ifs g b g') (λg d g'=>∀bk:Bk,aB (X.blk N' scope bk) z cN g (.dat d) g') ao RV g3
theorem nj(hw:eH X z t1 i1 g ao g1)(ht1:∀b:Bk,gG (X.blk N' scope b) z t1 T1)(ht:∀b:Bk,gG (X.blk N' scope b) z tg T)(hT1:∀i∈T1.ix,g1.length<=i/\i<g1.length+k)(hT:∀i∈T.ix,g1.length<=i/\i<g1.length+k)
  (hcp:gY T1 (λg b g'=>∀bk:Bk,dI (X.blk N' scope bk) z f1 g b g') (yp X z N' scope tg iter cN ifs T (g1.length+k)) ao (gC k g1) gE) (hacc:gE[g1.length+k]?=some (.own acc)) :
  ∃wi,PI X t1 i1 wi/\∀σ As M H Q,S z g σ As M H->Kn z (gE.take g1.length) σ M H (.new acc) Q->rE X k wi (λb=>Bu (X.blk N' scope b) t1) (λb=>FW (X.blk N' scope b) f1) (λD b=>W7 (Sw (X.blk N' scope b) tg iter) (Bu (X.blk N' scope b) tg) (FW (X.blk N' scope b) ifs) (qL D (Bv (X.blk N' scope b) cN))) σ H Q:=by
 obtain⟨wi,q,kw⟩:=hw;refine⟨wi,q,λσ As M H Q s kq=>kw σ As M H _ s λJ H1 bf M1 s1 eu hJ D hD=>?_⟩
 have hl:g1.length=σ.length:=s1.sl.length;have hz:∀p∈z.lent,p.1<σ.length:=λp hp=>(b0.mp (s1.jF p hp).1).1
 have XQ:∀i∈T1.ix,σ.length<=i:=λi hi=>by rw[<- hl];exact (hT1 i hi).1
 have Vp:∀i∈T.ix,σ.length<=i:=λi hi=>by rw[<- hl];exact (hT i hi).1
 have GD:g1.length+k∉T1.ix:=λh=>mB _ (hT1 _ h).2
 have dj:g1.length+k∉T.ix:=λh=>mB _ (hT _ h).2
 have s1':=s1.aW (xs:=[]) hD;have h0:z.H0 D=none:=s1.cI hD;have nA:D∉bf:=λh=>s1.fresh hD (s1.sub D h)
 have sb:=s1'.extend (k:=k) (l:=[]) bP nA h0 aI .nil;have FZ:(σ++(List.replicate k none++[some (V.ref D)]))[g1.length+k]?=some (some (V.ref D)):=by
  rw[hl,eC (B0 _ _),mP,eC (by rw[i8];exact d5 _),i8,Nat.sub_self]
  rfl
 refine⟨λi m σ' H'=>i+m=ao.length/\∃gb Ab Mb τ,S z gb σ' Ab Mb H'/\az M1 H1 Mb H'/\σ'=σ++τ/\σ'[g1.length+k]?=some (some (.ref D))/\gY T1 (λg b g'=>∀bk:Bk,dI (X.blk N' scope bk) z f1 g b g') (yp X z N' scope tg iter cN ifs T (g1.length+k)) (ao.drop i) gb gE,
  ⟨ao.length,by lia,_,_,_,_,sb,az.aW hD,rfl,FZ,hcp⟩,?_⟩
 rintro i m σ' H' ⟨Xu,gb,Ab,Mb,τ,s2,aN,rfl,Bw,cp⟩;obtain⟨hgo,hstop⟩:=hJ Mb H' aN;cases e:ao[i]? with
 |none=>
  have hi:i=ao.length:=by have:=nK.mp e;lia
  subst hi;rw[Ap]at cp;cases cp;refine .inl ⟨hstop,?_⟩;obtain⟨a,xs,f1,f2,f3,f4⟩:=s2.sl.at hacc;rw[Bw]at f1;injection f1 with f1;injection f1 with f1;injection f1 with f1;subst f1;obtain⟨A1,s3,m3,n3⟩:=s2.shrink hz ⋯ hacc Bw;rw[<- hl]at s3;exact kq _ H' A1 Mb s3 (eu.trans aN) ⟨D,xs,rfl,m3,n3,h0,f3,f4⟩
 |some d=>
  obtain⟨go,yl⟩:=hgo i d e;rw[drop_cons e]at cp;have hi:i<ao.length:=(b0.mp e).1;refine .inr ⟨go,λσ' H'=>∃gb Ab Mb τ,S z gb σ' Ab Mb H'/\az M1 H1 Mb H'/\σ'=σ++τ/\σ'[g1.length+k]?=some (some (.ref D))/\gY T1 (λg b g'=>∀bk:Bk,dI (X.blk N' scope bk) z f1 g b g') (yp X z N' scope tg iter cN ifs T (g1.length+k)) (ao.drop (i+1)) gb gE,
   λBg Bh hN=>⟨m - 1,by lia,by lia,hN⟩,λx H2 hx bk _=>?_⟩
  obtain⟨s3,eX,rx⟩:=yl x H2 hx z gb (σ++τ) Ab rfl s2;obtain⟨t,qt,kt⟩:=ht1 bk;cases cp with
  |skip e0 hc rest=>
   refine⟨t,qt,kt d gb _ e0 x _ Ab Mb H2 _ s3 rx λσ4 jI s4 ag=>?_⟩
   obtain⟨τ',rfl⟩:=dU ag XQ;obtain⟨t2,q2,k2⟩:=hc bk;refine⟨t2,q2,k2 _ jI Mb H2 _ s4 λH5 DP M5 s5 lC=>?_⟩
   refine qK ⟨_,DP,M5,τ',s5,(aN.trans eX).trans lC,rfl,?_,rest⟩;rw[ag.2 _ GD];exact Bw
  |take e0 hc hin rest=>
   obtain⟨items2,RV,Zu,Jr⟩:=hin;refine⟨t,qt,kt d gb _ e0 x _ Ab Mb H2 _ s3 rx λσ4 jI s4 ag=>?_⟩
   obtain⟨τ',rfl⟩:=dU ag XQ;obtain⟨t2,q2,k2⟩:=hc bk;have K7:(σ++τ')[g1.length+k]?=some (some (V.ref D)):=by rw[ag.2 _ GD];exact Bw
   refine⟨t2,q2,k2 _ jI Mb H2 _ s4 λH5 DP M5 s5 lC=>lE ?_⟩
   refine GC (λg b g' h=>h bk) (λg d g' h=>h bk) (Zu bk) (ht bk) dj Jr s5 K7 λσ6 R8 M6 H6 s6 O2 Vt ag6=>?_
   obtain⟨τ6,rfl⟩:=dU ag6 Vp;exact⟨_,R8,M6,τ6,s6,((aN.trans eX).trans lC).trans O2,rfl,Vt,rest⟩
theorem GF(B:bR X.env.scope scope)(hc:X.calm=true)(hN:Names X.N N' scope k)(hw:eH X z t1 i1 g ao g1)(ht1:∀b:Bk,gG (X.blk N' scope b) z t1 T1)(ht:∀b:Bk,gG (X.blk N' scope b) z tg T)(hT1:∀i∈T1.ix,g1.length<=i/\i<g1.length+k)(hT:∀i∈T.ix,g1.length<=i/\i<g1.length+k)
  (hcp:gY T1 (λg b g'=>∀bk:Bk,dI (X.blk N' scope bk) z f1 g b g') (yp X z N' scope tg iter cN ifs T (g1.length+k)) ao (gC k g1) gE) (hacc:gE[g1.length+k]?=some (.own acc))
  (hs:∀x,foldedSetIterable i1 X.env x=pure x) (hs2:∀(b:Bk) x,foldedSetIterable iter (X.blk N' scope b).env x=pure x):aB X z (.ListComp cN [⟨t1,i1,f1,0⟩,⟨tg,iter,ifs,0⟩] scope pos) g (.new acc) (gE.take g1.length):=by
 obtain⟨wi,q,kk⟩:=nj hw ht1 ht hT1 hT hcp hacc;exact⟨_,Fb B hc hN q (λb=>⟨⟨jJ,lM⟩,Gz,jJ,lM,lN⟩) hs hs2,kk⟩
theorem GJ(B:bR X.env.scope scope)(hc:X.calm=true)(hN:Names X.N N' scope k)(hw:eH X z t1 i1 g ao g1)(ht1:∀b:Bk,gG (X.blk N' scope b) z t1 T1)(ht:∀b:Bk,gG (X.blk N' scope b) z tg T)(hT1:∀i∈T1.ix,g1.length<=i/\i<g1.length+k)(hT:∀i∈T.ix,g1.length<=i/\i<g1.length+k)
  (hcp:gY T1 (λg b g'=>∀bk:Bk,dI (X.blk N' scope bk) z f1 g b g') (yp X z N' scope tg iter cN ifs T (g1.length+k)) ao (gC k g1) gE) (hacc:gE[g1.length+k]?=some (.own acc))
  (EY:X.N.Nodup) (hy:X.N[i]?=some y) (hl:X.env.scope.names.lookup y=some .local) (hb:i∉z.bor) (hi:i<(gE.take g1.length).length)
  (hsw:swapsWith (.ListComp cN [⟨t1,i1,f1,0⟩,⟨tg,iter,ifs,0⟩] scope pos) (some (.Name y py)) cg.line X.env=pure true)
  (hs:∀x,foldedSetIterable i1 X.env x=pure x) (hs2:∀(b:Bk) x,foldedSetIterable iter (X.blk N' scope b).env x=pure x):g7 X z (.Assign [.Name y py] (.ListComp cN [⟨t1,i1,f1,0⟩,⟨tg,iter,ifs,0⟩] scope pos) cg) g .nx ((gE.take g1.length).set i (.own acc)):=by
 obtain⟨wi,q,kk⟩:=nj hw ht1 ht hT1 hT hcp hacc;refine⟨_,Fc B hc hN q (λb=>⟨⟨jJ,lM⟩,Gz,jJ,lM,lN⟩) EY hy hl hsw hs hs2,λσ As M H E s kE=>kk σ As M H _ s λv H' aG M' s' st R=>?_⟩
 obtain⟨a,xs,rfl,hm,hA,h0,ha,rr⟩:=R;obtain⟨bK,s2⟩:=s'.oU hb hi hm hA h0 ha rr;exact kE _ bK M' H' s2 st
end
inductive gg(z:Z)(As M:List Addr)(H:Hp):List Addr->List (List D)->Prop
 |nil:gg z As M H [] []
 |cons {p:Addr}{as:List Addr}{xs:List V}{l:List D}{ll:List (List D)}:p∈M->p∉As->z.H0 p=none->H p=some (.lst xs)->aH z.K M H l xs->gg z As M H as ll->gg z As M H (p::as) (l::ll)
section
theorem gg.stay(h:gg z As M H as ll)(st:az M H M' H')(k:∀p∈as,p∈M'/\H' p=H p):gg z As M' H' as ll:=by
 induction h with
 |nil=>exact .nil
 |cons h1 h2 h3 h4 h5 _ ih=>obtain⟨k1,k2⟩:=k _ bP;exact .cons k1 h2 h3 (k2.trans h4) (h5.stay st) (ih λp hp=>k p (aS _ hp))
theorem gg.mem(h:gg z As M H as ll):∀p∈as,p∈M/\p∉As/\z.H0 p=none/\∃xs,H p=some (.lst xs):=by
 induction h with
 |nil=>intro p h;cases h
 |cons h1 h2 h3 h4 _ _ ih=>intro p hp;rcases dS.mp hp with rfl |hp;exact⟨h1,h2,h3,_,h4⟩;exact ih p hp
theorem gg.get(h:gg z As M H as ll):∀{i:Nat}{l:List D},ll[i]?=some l->∃p xs,as[i]?=some p/\H p=some (.lst xs)/\aH z.K M H l xs:=by
 induction h with
 |nil=>intro i l e;cases e
 |cons h1 h2 h3 h4 h5 _ ih=>intro i l e;cases i with
  |zero=>cases (show some _=some l from e);exact⟨_,_,rfl,h4,h5⟩
  |succ i=>exact ih (i:=i) e
theorem gg.push(h:gg z As M H as ll)(h1:p∈M)(h2:p∉As)(h3:z.H0 p=none)(h4:H p=some (.lst xs))(h5:aH z.K M H l xs):gg z As M H (as++[p]) (ll++[l]):=by
 induction h with
 |nil=>exact .cons h1 h2 h3 h4 h5 .nil
 |cons a b c d e _ ih=>exact .cons a b c d e ih
theorem gg.write(h:gg z As M H as ll)(nd:as.Nodup)(r:aH z.K M (upd H p (.lst xs')) l' xs')(hp:p∈M):∀{i:Nat},as[i]?=some p->gg z As M (upd H p (.lst xs')) as (ll.set i l'):=by
 induction h with
 |nil=>intro i e;cases e
 |@cons q as xs l ll h1 h2 h3 h4 h5 hr ih=>
  intro i e;obtain⟨nd1,nd2⟩:=fN.mp nd;cases i with
  |zero=>
   cases (show some q=some p from e)
   exact .cons h1 h2 h3 aI r (hr.stay (az.write hp) λx hx=>⟨(hr.mem x hx).1,aF (λe=>nd1 (e▸hx))⟩)
  |succ i=>
   have hq:q≠p:=λe'=>nd1 (by rw[e'];exact i5 (show as[i]?=some p from e))
   exact .cons h1 h2 h3 (by rw[aF hq];exact h4) (h5.stay (az.write hp)) (ih nd2 (i:=i) e)
end
def Rows(z:Z)(g:G)(iy:Nat)(M0:List Addr)(H0:Hp)(ll:List (List D))(σ:Sg)(H:Hp):Prop:=
 ∃As M a as,S z g σ As M H/\az M0 H0 M H/\σ[iy]?=some (some (.ref a))/\a∈M/\a∉As/\z.H0 a=none/\H a=some (.lst (as.map .ref))/\a∉as/\as.Nodup/\gg z As M H as ll
theorem Rows.ni(h:Rows z g iy M0 H0 ll σ H)(e:g[i]?=some .no)(n:i≠iy):Rows z g iy M0 H0 ll (σ.set i v) H:=by obtain⟨As,M,a,as,s,st,e1,h⟩:=h;exact⟨As,M,a,as,s.ni e,st,by rw[eR n];exact e1,h⟩
section
variable{iy ix iw:Nat}
theorem zL(hy:X.N[iy]?=some y)(vy:mQ X.env.scope y)(dy:(y==("__debug__":Str))=false)(cy:(y==("__classdict__":Str))=false)(hx:X.N[ix]?=some x)(vx:mQ X.env.scope x)(dx:(x==("__debug__":Str))=false)(cx:(x==("__classdict__":Str))=false)
  (hw:X.N[iw]?=some w) (vw:mQ X.env.scope w) (dw:(w==("__debug__":Str))=false) (cw:(w==("__classdict__":Str))=false) (hline:(eo.endLine==bQ.line)=true) :
  ∃t,PS X (.Expr (.Call (.Attribute (.Subscript (.Name y py) (.Name x px) sp) "append" eo) [.Name w pw] [] bQ) ep) t/\∀σ H M0 H0 (E:Ends) (ll:List (List D)) (l:List D) (j:Nat) (b:Int),Rows z g iy M0 H0 ll σ H->σ[ix]?=some (some (.int j))->σ[iw]?=some (some (.int b))->ll[j]?=some l->l.length<1000->
   (∀H',Rows z g iy M0 H0 (ll.set j (l++[.int b])) σ H'->E.nx σ H')->t E σ H:=by
 refine⟨_,zg (zq y7 PySem.F.slot_list_append PySem.F.type_list_append lD (Ou sZ (dH hy vy dy cy) (dH hx vx dx cx) (λ_ _=>rfl)) (iX (dH hw vw dw cw) oE rfl) rfl rfl hline rfl rfl) rfl,λσ H M0 H0 E ll l j b h ex ew el hl kE=>?_⟩
 obtain⟨As,M,a,as,s,st,e1,hm,hA,h0,ha,na,nd,rl⟩:=h;obtain⟨p,xs,ep,hp,rp⟩:=rl.get el;obtain⟨q1,q2,q3,_⟩:=rl.mem p (i5 ep);have hat:fB (as.map V.ref) (j:Int)=some (.ref p):=by
  have hj:j<as.length:=(b0.mp ep).1;unfold L2.fB L2.nR;rw[eP ⋯,eP (by rw[dC];lia)]
  simp only[nN];show (as.map V.ref)[j]?=some (.ref p);rw[nE,ep];rfl
 refine⟨.ref a,e1,.int j,ex,a,as.map .ref,j,.ref p,rfl,rfl,bY.of ha,hat,.inl ⟨rfl,xs,bY.of hp⟩,.int b,ew,p,xs,.int b,rfl,rfl,hp,?_,kE _ ?_⟩
 . rw[<- rp.length,mI];lia
 .
  have hap:a≠p:=λe=>na (e▸i5 ep)
  refine⟨As,M,a,as,s.Gy q1 q2 q3 hp,st.trans (az.write q1),e1,hm,hA,h0,by rw[aF hap];exact ha,na,nd,?_⟩
  exact rl.write nd ((rp.stay (az.write q1)).append (.cons (.int b) .nil)) q1 ep
end
noncomputable def vN(ll:List (List D)):D->Option (List (List D))
 |.tup [.int a,.int b]=>if 0<=a/\0<=b then match ll[a.toNat]? with
   |some l1=>if l1.length<1000 then match (ll.set a.toNat (l1++[.int b]))[b.toNat]? with
     |some l2=>if l2.length<1000 then some ((ll.set a.toNat (l1++[.int b])).set b.toNat (l2++[.int a]))else none
     |none=>none
    else none
   |none=>none
  else none
 |_=>none
noncomputable def iD:List D->List (List D)->Option (List (List D))
 | [],ll=>some ll
 |d::l,ll=>match vN ll d with |some O7=>iD l O7 |none=>none
theorem GK(h:vN ll d=some O7):∃(a b:Nat) (l1 l2:List D),d=.tup [.int a,.int b]/\ll[a]?=some l1/\l1.length<1000/\(ll.set a (l1++[.int b]))[b]?=some l2/\l2.length<1000/\O7=(ll.set a (l1++[.int b])).set b (l2++[.int a]):=by
 unfold vN at h;split at h
 .
  rename_i a b;split at h
  .
   rename_i h0;obtain⟨a,rfl⟩:∃n:Nat,a=n:=⟨a.toNat,by lia⟩
   obtain⟨b,rfl⟩:∃n:Nat,b=n:=⟨b.toNat,by lia⟩
   simp only[nN]at h;split at h
   .
    rename_i l1 e1;split at h
    .
     rename_i h1;split at h
     .
      rename_i l2 e2;split at h
      . rename_i h2;cases h;exact⟨a,b,l1,l2,rfl,e1,h1,e2,h2,rfl⟩
      . cases h
     . cases h
    . cases h
   . cases h
  . cases h
 . cases h
theorem S.zM:∀(ps:List Addr) {M:List Addr},S z g σ As M H->(∀p∈ps,p∉As/\z.H0 p=none)->∃M',S z g σ As M' H/\(∀m∈M',m∈M)/\∀p∈ps,p∉M'
 | [],M,s,_=>⟨M,s,λ_ h=>h,λ_ h=>nomatch h⟩
 |p::ps,M,s,h=>by
  obtain⟨h1,h2⟩:=h p bP;obtain⟨M',s',k1,k2⟩:=S.zM ps (s.drop h2 h1) λq hq=>h q (aS _ hq)
  refine⟨M',s',λm hm=>(i7.mp (k1 m hm)).1,λq hq=>?_⟩
  rcases dS.mp hq with rfl |hq
  . intro hm;have:=(i7.mp (k1 _ hm)).2;simp at this
  . exact k2 q hq
theorem gg.reps(h:gg z As M H as ll)(hM:∀m∈M',m∈M)(n:∀p∈as,p∉M'):aH z.K M' H (ll.map .lst) (as.map .ref):=by
 induction h with
 |nil=>exact .nil
 |cons _ _ _ h4 h5 _ ih=>exact .cons (.lst ⟨n _ bP,h4⟩ (h5.stay (az.less hM))) (ih λp hp=>n p (aS _ hp))
theorem Rows.trans(st:az M0 H0 M1 H1)(h:Rows z g iy M1 H1 ll σ H):Rows z g iy M0 H0 ll σ H:=by obtain⟨As,M,a,as,s,aN,r⟩:=h;exact⟨As,M,a,as,s,st.trans aN,r⟩
section
variable{iy ia ib it:Nat}
theorem GL(hp:PassesOwn (model X.prog X.w) X.A X.env X.xe)(hc:X.calm=true)(hK:z.K=X.K)(hy:X.N[iy]?=some y)(vy:mQ X.env.scope y)(dy:(y==("__debug__":Str))=false)(cy:(y==("__classdict__":Str))=false)
  (na:pA X a ia) (va:mQ X.env.scope a) (da:(a==("__debug__":Str))=false) (ca:(a==("__classdict__":Str))=false) (nb:pA X b ib) (vb:mQ X.env.scope b) (db:(b==("__debug__":Str))=false) (cb:(b==("__classdict__":Str))=false)
  (ht:X.N[it]?=some tn) (vt:mQ X.env.scope tn) (dt:(tn==("__debug__":Str))=false) (ct:(tn==("__classdict__":Str))=false) (hgt:g[it]?=some (.dat (.tup aj)))
  (hga:g[ia]?=some .no) (Zv:g[ib]?=some .no) (hay:ia≠iy) (hby:ib≠iy) (hab:ia≠ib) (l1:(O8.endLine==O9.line)=true) (l2:(Pa.endLine==Jr.line)=true)
  {ll0:List (List D)} (hF:iD aj ll0=some Js) :
  ∃t,PS X (.For (.Tuple [.Name a pa,.Name b pb] tk Dw) (.Name tn tp) [.Expr (.Call (.Attribute (.Subscript (.Name y y1) (.Name a a1) Vu) "append" O8) [.Name b b1] [] O9) Vv,.Expr (.Call (.Attribute (.Subscript (.Name y y2) (.Name b b2) Vw) "append" Pa) [.Name a a2] [] Jr) Vx] [] GP) t/\
   ∀M0 H0 σ H (E:Ends),Rows z g iy M0 H0 ll0 σ H->(∀σ' H',Rows z g iy M0 H0 Js σ' H'->E.nx σ' H')->t E σ H:=by
 obtain⟨t1,q1,k1⟩:=zL (z:=z) (g:=g) (py:=y1) (px:=a1) (pw:=b1) (sp:=Vu) (ep:=Vv) hy vy dy cy na.ix va da ca nb.ix vb db cb l1;obtain⟨t2,q2,k2⟩:=zL (z:=z) (g:=g) (py:=y2) (px:=b2) (pw:=a2) (sp:=Vw) (ep:=Vx) hy vy dy cy nb.ix vb db cb na.ix va da ca l2;refine⟨_,El hp hc (Ek (dH ht vt dt ct)) (xF (n:=2) hc (ig (j5 na.nd na.ix na.lc na.fn) (ig (j5 nb.nd nb.ix nb.lc nb.fn) sQ rfl) rfl) rfl rfl) (gn q1 (JL q2)) (λ_=>rfl),λM0 H0 σ H E h kE=>?_⟩
 obtain⟨As,M,ay,as,s,st,h⟩:=h;obtain⟨v,ev,rv⟩:=s.sl.oR hgt;cases rv with
 |@tup _ at' xs ha rr=>
  refine⟨.ref at',ev,at',rfl,⟨xs,hK▸ha.sq⟩,?_⟩;refine⟨λi m σ' H'=>i+m=aj.length/\∃ll,Rows z g iy M H ll σ' H'/\iD (aj.drop i) ll=some Js,⟨aj.length,BQ _,ll0,⟨As,M,ay,as,s,az.refl _ _,h⟩,hF⟩,?_⟩
  rintro i m σ' H' ⟨Xu,ll,hr,hf⟩;obtain⟨bK,M2,ay2,as2,s2,aN,h2⟩:=id hr;have ha2:TupAt z.K M2 H' at' xs:=by
   rcases ha with ⟨n,hq⟩ |hq
   . exact .inl (aN.rd n hq)
   . exact .inr hq
  have K1:=rr.stay aN;cases e:aj[i]? with
  |none=>
   have hi:i=aj.length:=by have:=nK.mp e;lia
   subst hi;rw[Ap]at hf;cases hf;exact .inl ⟨⟨xs,hK▸ha2.sq,by rw[<- rr.length];exact d5 _⟩,kE σ' H' (hr.trans st)⟩
  |some d=>
   rw[drop_cons e]at hf;have hi:i<aj.length:=(b0.mp e).1;obtain⟨xd,e1,e2⟩:=K1.get e;cases hd:vN ll d with
   |none=>
    have hf:(match vN ll d with |some O7=>iD (aj.drop (i+1)) O7 |none=>none)=some Js:=hf
    rw[hd]at hf;cases hf
   |some O7=>
    have hf:(match vN ll d with |some O7=>iD (aj.drop (i+1)) O7 |none=>none)=some Js:=hf
    rw[hd]at hf;obtain⟨Vy,Vz,r1,r2,rfl,g1,g2,g3,g4,rfl⟩:=GK hd;cases e2 with
    |@tup _ ad ys had XR=>
     cases XR with
     |cons ra XR=>cases XR with
      |cons rb XR=>
       cases XR;cases ra;cases rb;refine .inr ⟨⟨xs,.ref ad,hK▸ha2.sq,e1⟩,λBg Bh=>∃ll,Rows z g iy M H ll Bg Bh/\iD (aj.drop (i+1)) ll=some Js,λBg Bh hN=>⟨m - 1,by lia,by lia,hN⟩,λx H2 hx=>?_⟩
       obtain⟨rfl,hy'⟩:=hx;have:=hy' xs (hK▸ha2.sq);rw[e1]at this;cases this;refine⟨ad,_,rfl,hK▸had.sq,rfl,_,_,rfl,_,_,rfl,rfl,?_⟩;have aJ:σ'.length=g.length:=s2.sl.length.symm;have ila:ia<σ'.length:=by rw[aJ];exact (b0.mp hga).1
       have ilb:ib<σ'.length:=by rw[aJ];exact (b0.mp Zv).1
       have hr2:=(hr.ni (v:=some (.int Vy)) hga hay).ni (v:=some (.int Vz)) Zv hby
       have va':((σ'.set ia (some (V.int Vy))).set ib (some (V.int Vz)))[ia]?=some (some (.int Vy)):=by rw[eR (tP hab),fR ila]
       have vb':((σ'.set ia (some (V.int Vy))).set ib (some (V.int Vz)))[ib]?=some (some (.int Vz)):=by rw[fR (by rw[t6];exact ilb)]
       exact k1 _ _ M H _ ll r1 Vy Vz hr2 va' vb' g1 g2 λH3 hr3=>k2 _ _ M H _ _ r2 Vz Vy hr3 vb' va' g3 g4 λH4 hr4=>⟨_,hr4,hf⟩
end
section
theorem S.XS(s:S z g σ As M H)(τ:Sg):S z (g++List.replicate τ.length .no) (σ++τ) As M H:=by
 have hl:=s.sl.length;have q:=s.sl.append (Slots.nos' (K:=z.K) (M:=M) (H:=H) τ);rw[o4]at q;refine⟨q,s.nd,s.sub,λi b l e1 e2=>?_,s.live,s.keep,s.lG,s.m0,s.bm,λp hp=>?_,s.tab,s.tm,s.tt⟩
 .
  rcases sB i g.length with hi |hi
  . rw[dA hi]at e1;rw[dA ⋯]at e2;exact s.own i b l e1 e2
  . rw[eC hi]at e1;have:=i5 e1;rw[t9]at this;cases this.2
 . obtain⟨q1,l',q2⟩:=s.jF p hp;exact⟨by rw[dA (b0.mp q1).1];exact q1,l',by rw[dA (b0.mp q2).1];exact q2⟩
theorem Slots.XT{K:Frag}:∀{n:Nat}{τ:Sg}{A:List Addr},Slots K M H (List.replicate n .no) τ A->A=[]
 | 0,_,_,q=>by cases q;rfl
 |n+1,_,_,q=>by
  rw[mN]at q;cases q with
  |no q=>exact Slots.XT q
theorem S.XX{τ:Sg}{n:Nat}(s:S z (g++List.replicate n .no) (σ++τ) As M H)(hl:g.length=σ.length)(hz:∀p∈z.lent,p.1<σ.length):S z g σ As M H:=by
 obtain⟨σ1,σ2,A1,A2,h1,h2,h3,h4⟩:=s.sl.split;obtain⟨rfl,rfl⟩:=List.append_inj h1 (hl.symm.trans h3.length);have:=Slots.XT h4;subst this;rw[o4]at h2;subst h2;refine⟨h3,s.nd,s.sub,λi b l e1 e2=>?_,s.live,s.keep,s.lG,s.m0,s.bm,λp hp=>?_,s.tab,s.tm,s.tt⟩
 . have hi:=(b0.mp e1).1;exact s.own i b l (by rw[dA hi];exact e1) (by rw[dA ⋯];exact e2)
 . obtain⟨c1,l',c2⟩:=s.jF p hp;have tN:=hz p hp;rw[dA tN]at c1;rw[dA ⋯]at c2;exact⟨c1,l',c2⟩
end
section
variable{iy im:Nat}
theorem Cp(hj:j<k)(hN:Names X.N N' scope k)(B:bR X.env.scope scope)(hc:X.calm=true)(hx:∀b:Bk,pA (X.blk N' scope b) x (X.N.length+j))(hgr:Gl X "range")(hmr:X.mg "range"=none)
  (Pb:g.length=X.N.length) (hm:X.N[im]?=some mn) (vm:mQ X.env.scope mn) (dm:(mn==("__debug__":Str))=false) (cm:(mn==("__classdict__":Str))=false) (hgm:g[im]?=some (.dat (.int m))) (hm1:m<=1000)
  (EY:X.N.Nodup) (hy:X.N[iy]?=some y) (hl:X.env.scope.names.lookup y=some .local) (Zw:g[iy]?=some .no)
  (hsw:swapsWith (.ListComp (.List [] lp) [⟨.Name x px,.Call (.Name "range" rp) [.Name mn mp] [] VB,[],0⟩] scope Sx) (some (.Name y py)) ap.line X.env=pure true) :
  ∃t,PS X (.Assign [.Name y py] (.ListComp (.List [] lp) [⟨.Name x px,.Call (.Name "range" rp) [.Name mn mp] [] VB,[],0⟩] scope Sx) ap) t/\∀σ As M H (E:Ends),S z g σ As M H->(∀σ' H',Rows z g iy M H (List.replicate m []) σ' H'->E.nx σ' H')->t E σ H:=by
 refine⟨_,zx (k:=k) B hc hN (rq hgr hmr (iX (dH hm vm dm cm) oE rfl)) (λb=>⟨j5 (hx b).nd (hx b).ix (hx b).lc (hx b).fn,oM,Er oE⟩) EY hy hl hsw (λ_=>rfl),λσ As M H E s kE=>?_⟩
 obtain⟨v,ev,rv⟩:=s.sl.oR hgm;cases rv;refine⟨.int m,ev,(m:Int),rfl,by lia,by lia,λD hD=>?_⟩
 have aJ:g.length=σ.length:=s.sl.length;have h0D:z.H0 D=none:=s.cI hD;have s1:=s.aW (xs:=[]) hD;rw[nN];refine⟨λi n σ' H'=>i+n=m/\∃Mb as w,S z (g++List.replicate (k+1) .no) σ' As Mb H'/\az M H Mb H'/\w.length=k/\σ'=σ++(w++[some (.ref D)])/\D∈Mb/\H' D=some (.lst (as.map .ref))/\D∉as/\as.Nodup/\as.length=i/\gg z As Mb H' as (List.replicate i []),⟨m,BQ _,D::M,[],List.replicate k none,?_,az.aW hD,i8,rfl,bP,aI,(λh=>nomatch h),vS,rfl,.nil⟩,?_⟩
 . have:=s1.XS (List.replicate k none++[some (.ref D)]);rw[dL,i8]at this;exact this
 .
  rintro i n σ' H' ⟨hin,Mb,as,w,s2,aN,hw,rfl,Zx,hDH,hDn,nd,hal,rl⟩;have nDA:D∉As:=λh=>s.fresh hD (s.sub D h)
  by_cases hi:i<m
  .
   refine .inr ⟨hi,λσ' H'=>∃Mb as w,S z (g++List.replicate (k+1) .no) σ' As Mb H'/\az M H Mb H'/\w.length=k/\σ'=σ++(w++[some (.ref D)])/\D∈Mb/\H' D=some (.lst (as.map .ref))/\D∉as/\as.Nodup/\as.length=i+1/\gg z As Mb H' as (List.replicate (i+1) []),λBg Bh hN=>⟨n - 1,by lia,by lia,hN⟩,λx' H2 hx' bk _=>?_⟩
   obtain⟨rfl,rfl⟩:=hx';have es:(σ++(w++[some (V.ref D)])).set (X.N.length+j) (some (.int (0+(i:Int))))=σ++(w.set j (some (.int (0+(i:Int))))++[some (V.ref D)]):=by rw[<- Pb,aJ,AI _ _ (B0 _ _),mP,List.set_append_left _ _ ⋯]
   have s3:S z (g++List.replicate (k+1) .no) (σ++(w.set j (some (.int (0+(i:Int))))++[some (V.ref D)])) As Mb H2:=by rw[<- es];exact s2.ni (by rw[<- Pb,eC (B0 _ _),mP,List.getElem?_replicate,eP ⋯])
   unfold uW zu;dsimp only;rw[eP rfl];show qL D (WM _) ((σ++(w++[some (V.ref D)])).set (X.N.length+j) (some (.int (0+(i:Int))))) H2 _;rw[es];refine⟨u4 _,λp hp=>?_⟩
   have pD:p≠D:=λe=>by rw[e,hDH]at hp;cases hp
   have pas:∀q∈as,q≠p:=λq hq e=>by
    obtain⟨_,_,_,xs,hx⟩:=rl.mem q hq;rw[e,hp]at hx;cases hx
   have hD1:upd H2 p (.lst []) D=some (.lst (as.map .ref)):=by rw[aF (tP pD)];exact hDH
   have s4:=s3.aW (xs:=[]) hp;have s5:=s4.Gy (a:=D) (xs':=as.map .ref++[.ref p]) (aS _ Zx) nDA h0D hD1;have eX:az Mb H2 (p::Mb) (upd H2 p (.lst [])):=az.aW hp;have qO:az (p::Mb) (upd H2 p (.lst [])) (p::Mb) (upd (upd H2 p (.lst [])) D (.lst (as.map .ref++[.ref p]))):=az.write (aS _ Zx);refine⟨as.map .ref,hD1,?_,p::Mb,as++[p],_,s5,(aN.trans eX).trans qO,by rw[t6];exact hw,rfl,aS _ Zx,?_,?_,?_,?_,?_⟩
   . rw[dC,hal,mI];lia
   . rw[aI,n4];rfl
   .
    intro h;rcases AC.mp h with h |h
    . exact hDn h
    . exact pD (i6.mp h).symm
   .
    refine v4.mpr ⟨nd,fN.mpr ⟨by simp,vS⟩,λq hq r hr e=>?_⟩
    rw[i6.mp hr]at e;exact pas q hq e
   . rw[dL,hal];rfl
   .
    have r1:=rl.stay (eX.trans qO) λq hq=>⟨aS _ (rl.mem q hq).1,by rw[aF (show q≠D from λe=>hDn (by rw[<- e];exact hq)),aF (pas q hq)]⟩
    rw[show List.replicate (i+1) ([]:List Ev.D)=List.replicate i []++[[]]from List.replicate_succ']
    exact r1.push bP (λh=>s2.fresh hp (s2.sub p h)) (s2.cI hp) (by rw[aF pD];exact aI) .nil
  .
   have hi':i=m:=by lia
   subst hi';refine .inl ⟨d5 _,?_⟩;have s3:=s2.XX aJ λp hp=>(b0.mp (s.jF p hp).1).1
   have hly:iy<σ.length:=by rw[<- aJ];exact (b0.mp Zw).1
   exact kE _ _ ⟨As,Mb,D,as,s3.ni Zw,aN,fR hly,Zx,nDA,h0D,hDH,hDn,nd,rl⟩
end
section
variable{iy im ia ib it:Nat}
theorem yq(hp:PassesOwn (model X.prog X.w) X.A X.env X.xe)(hK:z.K=X.K)(hj:j<k)(hN:Names X.N N' scope k)(B:bR X.env.scope scope)(hc:X.calm=true)(hx:∀b:Bk,pA (X.blk N' scope b) x (X.N.length+j))(hgr:Gl X "range")(hmr:X.mg "range"=none)
  (hm:X.N[im]?=some mn) (vm:mQ X.env.scope mn) (dm:(mn==("__debug__":Str))=false) (cm:(mn==("__classdict__":Str))=false) (hgm:g[im]?=some (.dat (.int m))) (hm1:m<=1000)
  (EY:X.N.Nodup) (hy:X.N[iy]?=some y) (hl:X.env.scope.names.lookup y=some .local) (dy:(y==("__debug__":Str))=false) (cy:(y==("__classdict__":Str))=false) (Zw:g[iy]?=some .no)
  (hsw:swapsWith (.ListComp (.List [] lp) [⟨.Name x px,.Call (.Name "range" rp) [.Name mn mp] [] VB,[],0⟩] scope Sx) (some (.Name y py)) ap.line X.env=pure true)
  (na:pA X a ia) (va:mQ X.env.scope a) (da:(a==("__debug__":Str))=false) (ca:(a==("__classdict__":Str))=false) (nb:pA X b ib) (vb:mQ X.env.scope b) (db:(b==("__debug__":Str))=false) (cb:(b==("__classdict__":Str))=false)
  (ht:X.N[it]?=some tn) (vt:mQ X.env.scope tn) (dt:(tn==("__debug__":Str))=false) (ct:(tn==("__classdict__":Str))=false) (hgt:g[it]?=some (.dat (.tup aj)))
  (hga:g[ia]?=some .no) (Zv:g[ib]?=some .no) (hay:ia≠iy) (hby:ib≠iy) (hab:ia≠ib) (l1:(O8.endLine==O9.line)=true) (l2:(Pa.endLine==Jr.line)=true) (hF:iD aj (List.replicate m [])=some Js) :
  Cj X z [.Assign [.Name y py] (.ListComp (.List [] lp) [⟨.Name x px,.Call (.Name "range" rp) [.Name mn mp] [] VB,[],0⟩] scope Sx) ap,.For (.Tuple [.Name a pa,.Name b pb] tk Dw) (.Name tn tp) [.Expr (.Call (.Attribute (.Subscript (.Name y y1) (.Name a a1) Vu) "append" O8) [.Name b b1] [] O9) Vv,.Expr (.Call (.Attribute (.Subscript (.Name y y2) (.Name b b2) Vw) "append" Pa) [.Name a a2] [] Jr) Vx] [] GP,.Return (some (.Name y yr)) rpos] g (.rt (.dat (.lst (Js.map .lst)))) g:=by
 have vy:mQ X.env.scope y:=.inl hl;by_cases Pb:g.length=X.N.length
 .
  obtain⟨t1,q1,k1⟩:=Cp (z:=z) hj hN B hc hx hgr hmr Pb hm vm dm cm hgm hm1 EY hy hl Zw hsw;have q3:PS X (.Return (some (.Name y yr)) rpos) _:=Eg (dH hy vy dy cy);have fin:∀M H (E:Ends) σ' H',pg z M H E g (.rt (.dat (.lst (Js.map .lst))))->Rows z g iy M H Js σ' H'->Wa iy σ' H' E.rt:=λM H E σ' H' kE h=>by
   obtain⟨As,M2,ay,as,s,st,e1,hm,hA,h0,ha,nay,nd,rl⟩:=h;obtain⟨M3,s3,k3,k4⟩:=S.zM (ay::as) s λp hp=>by
    rcases dS.mp hp with rfl |hp
    . exact⟨hA,h0⟩
    . exact⟨(rl.mem p hp).2.1,(rl.mem p hp).2.2.1⟩
   exact⟨.ref ay,e1,kE _ σ' As M3 H' s3 (st.trans (az.less k3)) (.lst ⟨k4 _ bP,ha⟩ (rl.reps k3 λp hp=>k4 p (aS _ hp)))⟩
  have mid:∃t,PS X (.For (.Tuple [.Name a pa,.Name b pb] tk Dw) (.Name tn tp) [.Expr (.Call (.Attribute (.Subscript (.Name y y1) (.Name a a1) Vu) "append" O8) [.Name b b1] [] O9) Vv,.Expr (.Call (.Attribute (.Subscript (.Name y y2) (.Name b b2) Vw) "append" Pa) [.Name a a2] [] Jr) Vx] [] GP) t/\
   ∀M0 H0 σ H (E:Ends),Rows z g iy M0 H0 (List.replicate m []) σ H->(∀σ' H',Rows z g iy M0 H0 Js σ' H'->E.nx σ' H')->t E σ H:=GL hp hc hK hy vy dy cy na va da ca nb vb db cb ht vt dt ct hgt hga Zv hay hby hab l1 l2 hF
  obtain⟨t2,q2,k2⟩:=mid;refine⟨[t1,t2,_],.cons q1 (.cons q2 (.cons q3 .nil)),λu σ As M H E s kE=>?_⟩
  exact k1 σ As M H _ s λσ' H' h'=>k2 M H σ' H' _ h' λσ2 H2 h2=>fin M H _ σ2 H2 kE h2
 .
  have no:∀st:Stmt,PS X st (λ_ σ _=>σ.length≠X.N.length):=λst ah s σ H D I h=>absurd I.len h
  exact⟨[_,_,_],.cons (no _) (.cons (no _) (.cons (no _) .nil)),λu σ As M H E s kE=>λe=>Pb (s.sl.length.trans e)⟩
end
end Ev
namespace HT
open PySem PyProof.Rows
end HT
namespace Ev
open L2
mutual
noncomputable def iE:D->Bool
 |.tup l=>gi l
 |.lst l=>gi l
 |.fix l=>gi l
 |.vg ..=>false
 |_=>true
noncomputable def gi:List D->Bool
 | []=>true
 |d::l=>iE d&&gi l
end
def jM:G->Bool
 | []=>true
 |.no::g=>jM g
 |.dat d::g=>iE d&&jM g
 |.own l::g=>gi l&&jM g
theorem vO:∀{l m:List D},gi l=true->gi m=true->gi (l++m)=true
 | [],_,_,h=>h
 |d::l,_,h,k=>by
  have h:(iE d&&gi l)=true:=h;rw[c8]at h;show (iE d&&gi (l++_))=true;rw[h.1,vO h.2 k];rfl
section
variable{K:Frag}{M:List Addr}{H:Hp}{q:Addr}{eT:List (List Key×V)}{u:HO}
theorem Rep.GQ(hq:H q=some (.dT eT)){d:D}{v:V}(r:Rep K M H d v):iE d=true->Rep K M (upd H q u) d v:=by
 have ne:∀{b:Addr}{o:HO},H b=some o->(∀l,o≠.dT l)->upd H q u b=some o:=λ{b o} e n=>by
  rw[aF (λz=>by rw[z,hq]at e;cases e;exact n _ rfl)];exact e
 refine Rep.rec (motive_1:=λd v _=>iE d=true->Rep K M (upd H q u) d v) (motive_2:=λds vs _=>gi ds=true->aH K M (upd H q u) ds vs) (λ_=>.non) (λb _=>.bl b) (λi _=>.int i) (λx _=>.str x) (λt _ ih h=>?_) (λt _ ih h=>?_) (λt _ ih h=>?_) (λn r _=>.emp n (ne r λ_ e=>nomatch e)) (λx n r _=>.DN x n (ne r λ_ e=>nomatch e)) (λ_ _ _ _ _ h=>Bool.noConfusion (show false=true from h)) (λ_=>.nil) (λ_ _ i1 i2 h=>?_) r
 .
  rcases t with ⟨n,t |⟨o,t⟩⟩ |t
  . exact .tup (.inl ⟨n,.inl (ne t λ_ e=>nomatch e)⟩) (ih h)
  . exact .tup (.inl ⟨n,.inr ⟨o,ne t λ_ e=>nomatch e⟩⟩) (ih h)
  . exact .tup (.inr t) (ih h)
 . exact .lst ⟨t.1,ne t.2 λ_ e=>nomatch e⟩ (ih h)
 .
  rcases t with ⟨n,o,t⟩ |t
  . exact .fix (.inl ⟨n,o,ne t λ_ e=>nomatch e⟩) (ih h)
  . exact .fix (.inr t) (ih h)
 . have h:(iE _&&gi _)=true:=h;rw[c8]at h;exact .cons (i1 h.1) (i2 h.2)
theorem aH.GQ(hq:H q=some (.dT eT)):∀{ds:List D}{vs:List V},aH K M H ds vs->gi ds=true->aH K M (upd H q u) ds vs
 | [],_,r,_=>by cases r;exact .nil
 |d::ds,_,r,h=>by
  have h:(iE d&&gi ds)=true:=h;rw[c8]at h;cases r with
  |cons a b=>exact .cons (a.GQ hq h.1) (b.GQ hq h.2)
theorem Slots.GQ(hq:H q=some (.dT eT)){g:G}{σ:Sg}{As:List Addr}(s:Slots K M H g σ As):jM g=true->Slots K M (upd H q u) g σ As:=by
 induction s with
 |nil=>exact λ_=>.nil
 |no _ ih=>exact λh=>.no (ih h)
 |@dat g σ As v d r _ ih=>intro h;have h:(iE d&&jM g)=true:=h;rw[c8]at h;exact .dat (r.GQ hq h.1) (ih h.2)
 |@own g σ As a xs ds e r _ ih=>intro h;have h:(gi ds&&jM g)=true:=h;rw[c8]at h;exact .own (by rw[aF (λz=>by rw[z,hq]at e;cases e)];exact e) (aH.GQ hq r h.1) (ih h.2)
end
section
variable{z:Z}{g:G}{σ:Sg}{As M:List Addr}{H:Hp}
theorem S.GQ(s:S z g σ As M H){q:Addr}{eT:List (List Key×V)}{u:HO}(hq:H q=some (.dT eT))(hn:q∉M)(h0:z.H0 q=none)(h:jM g=true):S z g σ As M (upd H q u) where
 sl:=s.sl.GQ hq h
 nd:=s.nd
 sub:=s.sub
 own:=s.own
 live:=λm hm=>by
  rcases s.live m hm with ⟨o,e,gr⟩ |e
  . exact .inl ⟨o,by rw[aF (λ(z:m=q)=>hn (by rw[<- z];exact hm))];exact e,gr⟩
  . exact .inr e
 keep:=λb o e hb ht=>by rw[aF (λz=>by rw[z,h0]at e;cases e)];exact s.keep b o e hb ht
 lG:=s.lG
 m0:=s.m0
 bm:=s.bm
 jF:=s.jF
 tab:=λp hp=>(s.tab p hp).keep λb o e n=>by rw[aF (λz=>by rw[z,hq]at e;cases e;exact n trivial)];exact e
 tm:=s.tm
 tt:=s.tt
def gD(k:Nat)(g:G):G:=g++List.replicate (k+1) .no
theorem vP{K:Frag}:∀τ:Sg,Slots K M H (List.replicate τ.length .no) τ []
 | []=>.nil
 |_::τ=>.no (vP τ)
theorem S.wide(s:S z g σ As M H)(τ:Sg):S z (g++List.replicate τ.length .no) (σ++τ) As M H:=by
 have q:=s.sl.append (vP (K:=z.K) (M:=M) (H:=H) τ);rw[o4]at q;have hl:=s.sl.length;refine⟨q,s.nd,s.sub,λi b l e1 e2=>?_,s.live,s.keep,s.lG,s.m0,s.bm,λp hp=>?_,s.tab,s.tm,s.tt⟩
 .
  rcases sB i g.length with hi |hi
  . rw[dA hi]at e1;rw[dA ⋯]at e2;exact s.own i b l e1 e2
  . rw[eC hi]at e1;have:=i5 e1;rw[t9]at this;exact absurd this.2 ⋯
 . obtain⟨q1,l,q2⟩:=s.jF p hp;exact⟨by rw[dA (b0.mp q1).1];exact q1,l,by rw[dA (b0.mp q2).1];exact q2⟩
theorem S.narrow{gb:G}{τ:Sg}(s:S z gb (σ++τ) As M H)(hz:∀p∈z.lent,p.1<σ.length):∃A1,S z (gb.take σ.length) σ A1 M H/\∀a∈A1,a∈As:=by
 have hl:=s.sl.length;rw[dL]at hl;have q:=s.sl;rw[<- AH σ.length gb]at q;obtain⟨σ1,σ2,A1,A2,h1,h2,h3,h4⟩:=q.split;have l1:=h3.length;rw[rV,Nat.min_eq_left ⋯]at l1;obtain⟨rfl,rfl⟩:=List.append_inj h1 l1;subst h2;have tk:∀(j:Nat) (o:Slot),(gb.take σ.length)[j]?=some o->gb[j]?=some o/\j<σ.length:=λj o e=>by
  have hj:=(b0.mp e).1;rw[rV]at hj;have hj':j<σ.length:=fI hj (Nat.min_le_left _ _);rw[oQ hj']at e;exact⟨e,hj'⟩
 refine⟨A1,⟨h3,(v4.mp s.nd).1,λb hb=>s.sub b (pE _ hb),λj b l c1 c2=>?_,s.live,s.keep,s.lG,s.m0,s.bm,λp hp=>?_,s.tab,s.tm,s.tt⟩,λa ha=>pE _ ha⟩
 . obtain⟨c3,c4⟩:=tk j _ c1;exact s.own j b l c3 (by rw[dA c4];exact c2)
 . obtain⟨c1,l,c2⟩:=s.jF p hp;have tN:=hz p hp;rw[dA tN]at c1;exact⟨c1,l,by rw[oQ tN];exact c2⟩
end
section
variable{X:Cx}{z:Z}{tg iter kx vx:Expr}{scope:Scope}{pos:Pos}{N':List Str}{k:Nat}{T:Tg}{ao:List D}{g g1 gE:G}{ks:List (List Int)}{ds:List D}
def yt(X:Cx)(z:Z)(e:Expr)(g:G)(ns:List Int)(g':G):Prop:=
 ∃t,PE X e t/\∀σ As M H (Q:VK),S z g σ As M H->(∀a H' aG M',S z g' σ aG M' H'->az M H M' H'->a∉M'->H' a=some (.tup (ns.map V.int))->Q (.ref a) H')->t σ H Q
theorem Sy{es:List Expr}{rs:List R}{l:List D}{ns:List Int}{x1}{g':G}(h:dF X z es g rs g')(hd:tK rs=some l)(hi:aP l=some ns)(hl:l.length<=16777216):yt X z (.Tuple es x1 pos) g ns g':=by
 obtain⟨t,q,k⟩:=h;refine⟨_,Ep q,λσ As M H Q s kk=>k σ As M H _ s λvs H' aG M' s' st R=>?_⟩
 have rr:=tL R hd;have e:=aV rr hi;subst e;exact⟨by rw[<- rr.length];exact oW hl,λp hp=>kk p _ aG M' (s'.laid hp) (st.trans (az.laid hp)) (s'.fresh hp) aI⟩
inductive tV(T:Tg)(Zy:G->List Int->G->Prop)(Zz:G->D->G->Prop):List D->List (List Int)->List D->G->List (List Int)->List D->G->Prop
 |nil {ks:List (List Int)}{ds:List D}{g:G}:tV T Zy Zz [] ks ds g ks ds g
 |cons {d x:D}{rest ds ds':List D}{ks ks':List (List Int)}{ns:List Int}{g g1 g2 g3 g':G}:T.set d g=some g1->Zy g1 ns g2->Zz g2 x g3->ns∉ks->ks.length<16777216->jM g3=true->iE x=true->
   tV T Zy Zz rest (ks++[ns]) (ds++[x]) g3 ks' ds' g'->tV T Zy Zz (d::rest) ks ds g ks' ds' g'
theorem Lr{ns:List Int}{ks:List (List Int)}{vs:List V}(h:ns∉ks):ns.map Sum.inl∉(((ks.map (List.map Sum.inl)).zip vs).map (·.1):List (List Key)):=λhm=>by
 obtain⟨p,p1,p2⟩:=fA.mp hm;obtain⟨n,n1,n2⟩:=fA.mp (B9 (a:=p.1) (b:=p.2) p1).1;rw[p2]at n2;exact h ((List.map_inj_right λa b e=>Sum.inl.inj e).mp n2▸n1)
theorem vQ(ns:List Int):(ns.map (Sum.inl:Int->Key)).map kV=ns.map V.int:=by rw[List.map_map];rfl
theorem yu(hw:eH X z tg iter g ao g1)(ht:∀b:Bk,gG (X.blk N' scope b) z tg T)(hT:∀i∈T.ix,g1.length<=i/\i<g1.length+k)
  (hcp:tV T (λg ns g'=>∀bk:Bk,yt (X.blk N' scope bk) z kx g ns g') (λg d g'=>∀bk:Bk,aB (X.blk N' scope bk) z vx g (.dat d) g') ao [] [] (gD k g1) ks ds gE) :
  ∃wi,PI X tg iter wi/\∀σ As M H Q,S z g σ As M H->Kn z (gE.take g1.length) σ M H (.dat (.vg ks ds)) Q->tH (.dT []) X k wi (λb=>Bu (X.blk N' scope b) tg) (λ_=>zu) (λD b=>QW D (Bv (X.blk N' scope b) kx) (Bv (X.blk N' scope b) vx)) σ H Q:=by
 obtain⟨wi,q,kw⟩:=hw;refine⟨wi,q,λσ As M H Q s kq=>kw σ As M H _ s λJ H1 bf M1 s1 eu hJ D hD=>?_⟩
 have hl:g1.length=σ.length:=s1.sl.length;have hz:∀p∈z.lent,p.1<σ.length:=λp hp=>(b0.mp (s1.jF p hp).1).1
 have Vp:∀i∈T.ix,σ.length<=i:=λi hi=>by rw[<- hl];exact (hT i hi).1
 have h0:z.H0 D=none:=s1.cI hD;have sb:=(s1.laid (o:=Fe [] []) hD).wide (List.replicate k none++[some (V.ref D)]);rw[show (List.replicate k (none:Option V)++[some (V.ref D)]).length=k+1 by simp]at sb
 have pass:∀{M2:List Addr}{H2:Hp}{u:HO},az M1 H1 M2 H2->az M1 H1 M2 (upd H2 D u):=λst b o e n=>⟨by rw[aF (aO e hD)];exact (st b o e n).1,(st b o e n).2⟩
 refine⟨λi m σ' H'=>i+m=ao.length/\∃gb Ab Mb τ ka da vs,S z gb σ' Ab Mb H'/\az M1 H1 Mb H'/\σ'=σ++τ/\D∉Mb/\H' D=some (Fe ka vs)/\ka.length=vs.length/\aH z.K Mb H' da vs/\gi da=true/\
   tV T (λg ns g'=>∀bk:Bk,yt (X.blk N' scope bk) z kx g ns g') (λg d g'=>∀bk:Bk,aB (X.blk N' scope bk) z vx g (.dat d) g') (ao.drop i) ka da gb ks ds gE,
  ⟨ao.length,by lia,_,_,_,_,[],[],[],sb,az.laid hD,rfl,s1.fresh hD,aI,rfl,.nil,rfl,hcp⟩,?_⟩
 rintro i m σ' H' ⟨Xu,gb,Ab,Mb,τ,ka,da,vs,s2,aN,rfl,hm,hH,ZC,rr,nda,cp⟩;obtain⟨hgo,hstop⟩:=hJ Mb H' aN;cases e:ao[i]? with
 |none=>
  have hi:i=ao.length:=by have:=nK.mp e;lia
  subst hi;rw[Ap]at cp;cases cp;refine .inl ⟨hstop,?_⟩;obtain⟨A1,s3,n3⟩:=s2.narrow hz;rw[<- hl]at s3;exact kq _ H' A1 Mb s3 (eu.trans aN) (.vg hm hH ZC rr)
 |some d=>
  obtain⟨go,yl⟩:=hgo i d e;rw[drop_cons e]at cp;have hi:i<ao.length:=(b0.mp e).1;refine .inr ⟨go,λσ' H'=>∃gb Ab Mb τ ka da vs,S z gb σ' Ab Mb H'/\az M1 H1 Mb H'/\σ'=σ++τ/\D∉Mb/\H' D=some (Fe ka vs)/\ka.length=vs.length/\aH z.K Mb H' da vs/\gi da=true/\
   tV T (λg ns g'=>∀bk:Bk,yt (X.blk N' scope bk) z kx g ns g') (λg d g'=>∀bk:Bk,aB (X.blk N' scope bk) z vx g (.dat d) g') (ao.drop (i+1)) ka da gb ks ds gE,
   λBg Bh hN=>⟨m - 1,by lia,by lia,hN⟩,λx H2 hx bk _=>?_⟩
  obtain⟨s3,eX,rx⟩:=yl x H2 hx z gb (σ++τ) Ab rfl s2;obtain⟨t,qt,kt⟩:=ht bk;cases cp with
  |cons e0 hk hv hn hz' ng nx rest=>
   refine⟨t,qt,kt d gb _ e0 x _ Ab Mb H2 _ s3 rx λσ4 jI s4 ag=>?_⟩
   dsimp only[zu];rw[eP rfl];obtain⟨τ',rfl⟩:=dU ag Vp;obtain⟨t2,q2,k2⟩:=hk bk;obtain⟨t3,q3,k3⟩:=hv bk;refine⟨t2,q2,k2 _ jI Mb H2 _ s4 λa H5 DP M5 s5 lC na ha=>⟨t3,q3,k3 _ DP M5 H5 _ s5 λv H6 R8 M6 s6 O2 R6=>?_⟩⟩
   have stA:=(eX.trans lC).trans O2;obtain⟨Vt,nD6⟩:=stA D _ hH hm;refine⟨_,a,_,rfl,Vt,by rw[vQ];exact (O2 a _ ha na).1,Lr hn,?_,_,R8,M6,τ',_,_,vs++[v],s6.GQ Vt nD6 h0 ng,pass ((aN.trans stA)),rfl,nD6,?_,?_,?_,vO nda ?_,rest⟩
   . rw[List.length_zip,dC,<- ZC,Nat.min_self,mI];exact hz'
   .
    rw[aI];unfold Fe;rw[n4,List.zip_append (by rw[dC];exact ZC)]
    rfl
   . rw[dL,dL,ZC];rfl
   . exact aH.append (aH.GQ Vt (rr.stay stA) nda) (.cons (R6.GQ Vt nx) .nil)
   . show (iE _&&gi [])=true;rw[nx];rfl
theorem GR(B:bR X.env.scope scope)(hc:X.calm=true)(hu:X.A.units<cLine)(hN:Names X.N N' scope k)(hw:eH X z tg iter g ao g1)(ht:∀b:Bk,gG (X.blk N' scope b) z tg T)(hT:∀i∈T.ix,g1.length<=i/\i<g1.length+k)
  (hcp:tV T (λg ns g'=>∀bk:Bk,yt (X.blk N' scope bk) z kx g ns g') (λg d g'=>∀bk:Bk,aB (X.blk N' scope bk) z vx g (.dat d) g') ao [] [] (gD k g1) ks ds gE)
  (hs:∀x,foldedSetIterable iter X.env x=pure x):aB X z (.DictComp kx vx [⟨tg,iter,[],0⟩] scope pos) g (.dat (.vg ks ds)) (gE.take g1.length):=by
 obtain⟨wi,q,kk⟩:=yu hw ht hT hcp;exact⟨_,Fd B hc hu hN q (λb=>⟨jJ,oM,lN,lN⟩) hs,kk⟩
noncomputable def Ph:List (List Int)->List D->List Int->Option D
 |k::ks,d::ds,n=>if k=n then some d else Ph ks ds n
 |_,_,_=>none
theorem vR{K:Frag}{M:List Addr}{H:Hp}{n:List Int}{d:D}:∀{ks:List (List Int)}{ds:List D}{vs:List V},aH K M H ds vs->Ph ks ds n=some d->∃v,atK ((ks.map (List.map Sum.inl)).zip vs) (n.map Sum.inl)=some v/\Rep K M H d v
 | [],_,_,_,h=>by cases h
 |_::_,[],_,_,h=>by cases h
 |k::ks,x::ds,_,r,h=>by
  cases r with
  |cons a b=>
   unfold Ph at h;unfold atK;rw[List.map_cons,oD,List.find?_cons];by_cases e:k=n
   . rw[eP e]at h;cases h;subst e;exact⟨_,by rw[lL (show (k.map Sum.inl,_).1=k.map (Sum.inl:Int->Key)from rfl)];rfl,a⟩
   .
    rw[eQ e]at h;obtain⟨v,v1,v2⟩:=vR b h;refine⟨v,?_,v2⟩;rw[show decide ((k.map (Sum.inl:Int->Key),_).1=n.map Sum.inl)=false from l6 λq=>e ((List.map_inj_right λa b e=>Sum.inl.inj e).mp q)]
    exact v1
theorem Sz{l:List D}{n:List Int}{d:D}(hK:z.K=X.K)(hu:X.A.units+1<cLine)(hi:aP l=some n)(h:Ph ks ds n=some d):Vo X z (.vg ks ds) (.tup l) (.dat d):=by
 refine⟨_,Kl hu,λg σ As M H v1 v2 Q s q1 q2 kk=>?_⟩
 obtain⟨b,ys,rfl,hb,rb⟩:=q2.tup;have e:=aV rb hi;subst e;cases q1 with
 |of q1=>cases q1 with
  |vg na ha hl rr=>obtain⟨v,e1,e2⟩:=vR rr h;exact⟨_,b,_,n.map Sum.inl,v,rfl,rfl,ha,by rw[vQ];exact hK▸hb.sq,e1,kk _ H As M s (az.refl _ _) e2⟩
end
section
variable{X:Cx}{z:Z}{g g1:G}{pos:Pos}
def XZ:Zh:=λx y H Q=>∃l b xs zs,x=.ref l/\y=.ref b/\H l=some (.lst xs)/\H b=some (.lst zs)/\xs.length+zs.length<=sizeLine/\Q (.ref l) (upd H l (.lst (xs++zs)))
theorem SJ:PIp X .Add XZ:=by
 intro ah s σ H x y v u Q I r1 r2 h;obtain⟨l,b,xs,zs,rfl,rfl,hH,hB,hz,q⟩:=h;cases r1;cases r2;obtain⟨z,aA,n,r,hl,e⟩:=I.tF hH;obtain⟨z2,gX,n2,r2,hl2,e2⟩:=I.tF hB;have DY:aA.toArray.size+gX.toArray.size<=sizeLine:=by rw[b6,b6];lia
 have vd : ¬ (!aA.toArray.isEmpty&&Builtin.List.listTooLong (aA.toArray.size+gX.toArray.size))=true:=by rw[oK DY,CB];exact hU
 have ta:s.TypeIs (.ref l) "list" :=⟨_,e,rfl⟩;have tb:s.TypeIs (.ref b) "list" :=⟨_,e2,rfl⟩;have lk:=PySem.F.slot_list_iadd.lookup;have SM:fillsInplaceSlot (.type "list") "add" (Operator.Add==.Add)=pure false:=by
  unfold fillsInplaceSlot;show (typeLookup (.type "list") (dunderI "add") >>= λfi=>pure (fi.isSome&&!isSeqSlot fi))=pure false
  rw[lk,pure_bind,show isSeqSlot (some (Value.builtin "list.__iadd__"))=true by decide +kernel]
  rfl
 have hsi:seqSlot? (.type "list") (dunderI "add")=pure (some (.builtin "list.__iadd__")):=PySem.seqSlot_of lk (by decide +kernel)
 unfold inplaceOp;refine kA (a9 (Cs ta (a9 (wpAny_of_eq SM ?_))));show wpAny _ _ (if false=true then _ else _) _ _ s
 rw[eQ hU];refine a9 (wpAny_binaryOp1_none (nm:= "add") ta tb noFill_list_add ?_);refine a9 (wpAny_of_eq hsi (a9 (wpAny_rule ?_)));refine AW PySem.F.slot_list_iadd ta PySem.F.entry_list_iadd (PySem.F.args_list_iadd_2 _ _) (AutoSeq1.list___iadd___list_list_0 l aA.toArray n b gX.toArray n2 vd (by rw[b6];lia) ⋯) ⟨e,e2,?_⟩
 refine⟨.ref l,_,I.J9 (its':=aA++gX) hH e ⋯ (r.append r2) ?_,rfl,q⟩;rw[dL];lia
theorem Ls{i:Nat}{x:Str}{e:Expr}{l0 l m:List D}{pos':Pos}(hn:pA X x i)(h:aB X z e g (.dat (.lst m)) g1)(hg:g[i]?=some (.own l0))(uM:g1[i]?=some (.own l))(hl:l.length+m.length<=16777216) :
  g7 X z (.AugAssign (.Name x pos') .Add e pos) g .nx (g1.set i (.own (l++m))):=by
 obtain⟨t,q,k⟩:=h;refine⟨_,Ei hn.nd hn.ix hn.lc q SJ hn.fn,λσ As M H E s kk=>?_⟩
 obtain⟨a,xs,e1,e2,e3,e4⟩:=s.sl.at hg;refine⟨.ref a,e1,k σ As M H _ s λv H' aG M' s' st R=>?_⟩
 obtain⟨b,ys,f1,f2,f3,f4⟩:=s'.sl.at uM;rw[e1]at f1;injection f1 with f1;injection f1 with f1;injection f1 with f1;subst f1;cases R with
 |@lst _ c zs hc rr=>
  refine⟨a,c,ys,zs,rfl,rfl,f3,hc.2,by rw[<- f4.length,<- rr.length,mI];exact hl,?_⟩
  obtain⟨s2,aN⟩:=s'.write uM e1 (f4.append rr);have es:σ.set i (some (V.ref a))=σ:=by
   apply List.ext_getElem?;intro j;by_cases hj:i=j
   . subst hj;rw[fR (b0.mp e1).1,e1]
   . rw[eR hj]
  rw[es];exact kk _ aG M' _ s2 (st.trans aN)
theorem SN{i j:Int}(h0:0<=j)(h1:j<=1000000)(h2:i.natAbs<2 ^ 64):jY X z (binaryOp .LShift) (.int i) (.int j) (.dat (.int (i * 2 ^ j.toNat))):=by
 refine⟨λx y H Q=>x=.int i/\y=.int j/\Q (.int (i * 2 ^ j.toNat)) H,λah s σ H x y v u Q I r1 r2 h=>?_,λg σ As M H v1 v2 Q s q1 q2 kk=>⟨q1.int,q2.int,kk _ H As M s (az.refl _ _) (.int _)⟩⟩
 obtain⟨rfl,rfl,q⟩:=h;obtain⟨t,rfl⟩:=r1;obtain⟨t',rfl⟩:=r2;exact lshift_int_small h0 h1 h2 ⟨.int _,H,I.tok _,⟨_,rfl⟩,q⟩
end
section
variable{X:Cx}{z:Z}
theorem pJ(hc:X.calm=true):dO X (.builtin "any") (λxs H Q=>∃(p:Addr) (bs:List Bool),xs=[.ref p]/\bY X.K H p (bs.map V.bl)/\Q (.bl (bs.any id)) H):=by
 intro ah s σ H xs us Q I r h;obtain⟨p,bs,rfl,hp,q⟩:=h;obtain⟨u,rfl,rx⟩:=vals1 r;cases rx;obtain⟨aA,rv,pl,hz⟩:=I.list hp;have hlt:p<s⁻¹:=by obtain⟨_,e,_⟩:=pl.isList;exact eD e
 have aJ:aA.length=bs.length:=by rw[<- rv.length,dC]
 have up:∀b o,s.heap.get? b=some o->(s.heap.push { cls:=.type "list_iterator",data:=.fields #[.ref p,.int 0 0]}).get? b=some o:=λb o e=>b7 _ e
 refine call_any_walk (sR pl.isList ?_);refine⟨s⁻¹,_,_,_,_,_,λi=>bs.getD i false,rfl,CD (A:=X.A.in1) (show X.A.in1.handled=none from I.ok.hd hc) s⁻¹ p (hZ hlt) aA.toArray,⟨⟨_,eA _ rfl,rfl,rfl⟩,pl.isList.push _⟩,?_,λh' tk hk=>?_⟩
 .
  intro i v s' Q' E' hv hq;have hv':aA[i]?=some v:=by simpa using hv
  have hi:i<bs.length:=by rw[<- aJ];exact (b0.mp hv').1
  obtain⟨w,e1,e2⟩:=rv.get (i:=i) (x:=V.bl bs[i]) (by simp[hi])
  rw[hv']at e1;cases e1;cases e2;refine mM ?_;have:bs.getD i false=bs[i]:=by simp[List.getD,hi]
  rw[<- this];exact hq
 .
  have I1:L2.Inv X ah σ H { s with heap:=h',toks:=tk}:=I.kept λb o e=>hk b o (λhm=>by
   have:b=s⁻¹:=by simpa using hm
   exact absurd (eD e) (by rw[this];exact mB _)) (up b o e)
  refine⟨.bl (bs.any id),H,I1,?_,q⟩;have e:(List.range aA.toArray.size).any (λi=>bs.getD i false)=bs.any id:=by
   rw[b6,aJ];rw[t7];simp only[AS,lS,id];constructor
   . rintro⟨i,hi,h⟩;refine⟨bs[i],BY hi,?_⟩;simpa [List.getD,hi]using h
   . rintro⟨b,hb,h⟩;obtain⟨j,hj⟩:=B4 hb;have hj':=(b0.mp hj).1;refine⟨j,hj',?_⟩;simpa [List.getD,hj]using h
  rw[e];rfl
theorem SQ{l:List D}{bs:List Bool}(hc:X.calm=true)(h:qN l=some bs):CallD X z (.builtin "any") [.lst l] (.dat (.bl (bs.any id))):=by
 refine⟨_,pJ hc,λg σ As M H vs Q s p k=>?_⟩
 obtain⟨v,rfl,pv⟩:=p.one;obtain⟨a,xs,rfl,ha,r⟩:=pv.list;have e:=vn r h;subst e;exact⟨a,bs,rfl,bY.of ha,k _ H As M s (az.refl _ _) (.bl _)⟩
end
open L2 PySem.W
def nO(n:List Int):List (List Int)->List Int
 | []=>n
 |m::l=>nO (if HT.lexLt m n then m else n) l
theorem rR:∀(l:List (List Int)) (n m:List Int),nO n (l++[m])=if HT.lexLt m (nO n l)then m else nO n l
 | [],_,_=>rfl
 |_::l,_,m=>rR l _ m
abbrev Cq (L:List (List Int)) (i j:Nat):Bool:=HT.lexLt (L.getD i []) (L.getD j [])
theorem rS(n:List Int)(l:List (List Int)):∀k,k<=l.length->argBest (Cq (n::l)) k<=k/\(n::l).getD (argBest (Cq (n::l)) k) []=nO n (l.take k)
 | 0,_=>⟨d5 _,rfl⟩
 |k+1,hk=>by
  obtain⟨h0,h1⟩:=rS n l k (Nat.le_of_succ_le hk);have hlt:k<l.length:=hk;have e:(n::l).getD (k+1) []=l[k]:=by simp[hlt]
  have e2:l.take (k+1)=l.take k++[l[k]]:=List.take_succ_eq_append_getElem hlt;rw[e2,rR,<- h1,<- e];show (if Cq (n::l) (k+1) (argBest (Cq (n::l)) k)then k+1 else argBest (Cq (n::l)) k)<=k+1/\(n::l).getD (if Cq (n::l) (k+1) (argBest (Cq (n::l)) k)then k+1 else argBest (Cq (n::l)) k) []=_
  unfold Cq;split
  . exact⟨d5 _,rfl⟩
  . exact⟨Nat.le_succ_of_le h0,rfl⟩
section
variable{prog:Program}{w:World}{A:Around}{R:Result->Shared->Prop}{I S:Addr}{fp wr:List Addr}{n:Nat}{P:Nat->Value->Prop}{St:Nat->Heap->Prop}{h0:Heap}{bt:Nat->Nat->Bool}
abbrev Cr(h h':Heap):Prop:=∀b o,h.get? b=some o->h'.get? b=some o
def vU(prog:Program)(w:World)(A:Around)(h0:Heap)(P:Nat->Value->Prop)(bt:Nat->Nat->Bool):Prop:=
 ∀i j u v (s:Shared) (Q E:Value->Shared->Prop),Cr h0 s.heap->P i u->P j v->Q (.bool (bt i j)) s->wpAny (model prog w) A (richCompare .Lt u v) Q E s
theorem yw(W:Walks prog w A.in1 I fp wr n P St)(hc:vU prog w A.in1 h0 P bt)(hS:S∉fp)(hw:∀b o,h0.get? b=some o->b∉wr/\b≠S):∀(k j:Nat) (s:Shared) (v:Value) (c:Nat),n - (j+1)=k->j+1<=n->St (j+1) s.heap->P (argBest bt j) v->Cr h0 s.heap->
   s.heap.get? S=some { cls:=.type "list",dict:=none,data:=.seq #[v,v] c,slots:=#[]}->(∀u h tk,P (argBest bt (n - 1)) u->Cr h0 h->R (.ok (.ret u)) { s with heap:=h,toks:=tk})->
   codeAny (model prog w) A (.builtin "min.loop" ⟨[.ref I,.none,.ref S],[]⟩) R s:=by
 have ZD:S∉wr:=λz=>hS (W.sub _ z)
 have nm:(toString "min" ++ toString ".loop":String) = "min.loop" :=by decide
 intro k
 induction k with
 |zero=>
  intro j s v c hk hj st hp old oS fin;obtain rfl:n=j+1:=by lia
  refine A5 F.entry_min_loop ?_;rw[Around.under_plainId xL _];refine a9 (BM oS rfl ?_);refine a9 (wpAny_tryCatch (W.done s _ _ st λh tk kp=>?_))
  refine a9 (wpAny_updateSeq (kp S _ ZD oS) rfl (a9 (wpAny_letGo (d6 ?_))));exact fin v _ tk hp λb o e=>(i9 _ _ (tP (hw b o e).2)).trans (kp b o (hw b o e).1 (old b o e))
 |succ k ih=>
  intro j s v c hk hj st hp old oS fin;have hlt:j+1<n:=by lia
  refine A5 F.entry_min_loop ?_;rw[Around.under_plainId xL _];refine a9 (BM oS rfl ?_);refine a9 (wpAny_tryCatch (W.item (j+1) s _ _ hlt st λu h tk hu aN kp=>?_))
  have VD:=kp S _ ZD oS;have SX:Cr h0 h:=λb o e=>kp b o (hw b o e).1 (old b o e)
  show wpAny _ _ (tryCatch (holding [u,u] (richCompare .Lt u v >>= _)) _ >>= _) _ _ _;refine a9 (wpAny_tryCatch (kA (a9 (hc (j+1) (argBest bt j) u v _ _ _ SX hu hp ?_))));refine a9 (kA (mM ?_));refine a9 (wpAny_letGo (d6 ?_));cases hb:bt (j+1) (argBest bt j)with
  |true=>
   simp only[u7];refine a9 (wpAny_updateSeq VD rfl (a9 (wpAny_letGo ?_)));rw[nm];refine d6 ⟨plainId_quiet xL _,ih (j+1) _ u _ ⋯ hlt (W.frame _ _ _ aN λb hb o e=>?_) (by simp only[argBest,hb,u7];exact hu) (λb o e=>?_) (t5 _ VD rfl) fin⟩
   . exact (i9 _ _ (λz:S=b=>hS (z▸hb))).trans e
   . exact (i9 _ _ (tP (hw b o e).2)).trans (SX b o e)
  |false=>simp only[AA,Co];refine a9 (wpAny_letGo ?_);rw[nm];exact d6 ⟨plainId_quiet xL _,ih (j+1) _ v c ⋯ hlt aN (by simp only[argBest,hb,AA,Co];exact hp) SX VD fin⟩
theorem vV(W:Walks prog w A.in1 I fp wr n P St)(hc:vU prog w A.in1 h0 P bt)(hS:S∉fp)(hw:∀b o,h0.get? b=some o->b∉wr/\b≠S)(hn:0<n){s:Shared}{c:Nat}(st:St 0 s.heap)(old:Cr h0 s.heap)
  (oS:s.heap.get? S=some { cls:=.type "list",dict:=none,data:=.seq #[] c,slots:=#[]}) (fin:∀u h tk,P (argBest bt (n - 1)) u->Cr h0 h->R (.ok (.ret u)) { s with heap:=h,toks:=tk}) :
   codeAny (model prog w) A (.builtin "min.loop" ⟨[.ref I,.none,.ref S],[]⟩) R s:=by
 have ZD:S∉wr:=λz=>hS (W.sub _ z)
 have nm:(toString "min" ++ toString ".loop":String) = "min.loop" :=by decide
 refine A5 F.entry_min_loop ?_;rw[Around.under_plainId xL _];refine a9 (BM oS rfl ?_);refine a9 (wpAny_tryCatch (W.item 0 s _ _ hn st λu h tk hu aN kp=>?_))
 have VD:=kp S _ ZD oS;show wpAny _ _ (updateSeq S (λ_=>#[u,u]) >>= _) _ _ _
 refine a9 (wpAny_updateSeq VD rfl ?_);rw[nm];refine d6 ⟨plainId_quiet xL _,yw W hc hS hw _ 0 _ u _ rfl hn (W.frame _ _ _ aN λb hb o e=>?_) hu (λb o e=>?_) (t5 _ VD rfl) fin⟩
 . exact (i9 _ _ (λz:S=b=>hS (z▸hb))).trans e
 . exact (i9 _ _ (tP (hw b o e).2)).trans (kp b o (hw b o e).1 (old b o e))
theorem gS{x:Value}{Q E:Value->Shared->Prop}{s:Shared}
  (h:wpAny (model prog w) A.in1 (pyIter x) (λit t=>∃I fp wr n P St bt,it=.ref I/\Walks prog w A.in1 I fp wr n P St/\St 0 t.heap/\(∀b∈fp,b<t⁻¹)/\0<n/\vU prog w A.in1 s.heap P bt/\Cr s.heap t.heap/\(∀b o,s.heap.get? b=some o->b∉wr)/\
   ∀v h' tk,P (argBest bt (n - 1)) v->Cr s.heap h'->Q v { t with heap:=h',toks:=tk}) E s) :
  wpAny (model prog w) A (call (.builtin "min") [x]) Q E s:=by
 have nm:(toString "min" ++ toString ".loop":String) = "min.loop" :=by decide
 refine call_function_tree F.kind_min F.plain_min F.entry_min (F.args_min1 _) ?_;refine a9 (wpAny_of_eq (show Builtin.Builtins.bindParams "min" ["key", "default"] 0 ⟨[],[]⟩=pure [none,none]from rfl) ?_)
 refine a9 (d6 ?_);refine a9 (mE h (λit t z=>?_) λ_ _ e=>e)
 obtain⟨I,fp,wr,n,P,St,bt,rfl,W,st,hf,hn,hc,old,hw,fin⟩:=z;refine a9 (oT ?_);have hS:t⁻¹∉fp:=λz=>mB _ (hf _ z)
 rw[nm];exact d6 ⟨plainId_quiet xL _,vV W hc hS (λb o e=>⟨hw b o e,hZ (eD (old b o e))⟩) hn (W.frame _ _ _ st λb _ o e=>b7 _ e) (λb o e=>b7 _ (old b o e)) (eA _ rfl) fin⟩
end
section
variable{X:Cx}{z:Z}
theorem Cv(hc:X.calm=true)(hu:X.A.units+1<cLine):dO X (.builtin "min") (λxs H Q=>∃(p:Addr) (ys:List V) (n:List Int) (l:List (List Int)),xs=[.ref p]/\(bY X.K H p ys\/fy X.K H p ys)/\jy X.K H ys (n::l)/\
  ∀i,i<ys.length->(n::l).getD i []=nO n l->Q (ys.getD i .non) H):=by
 intro ah s σ H xs us Q I r h;obtain⟨p,ys,n,l,rfl,hp,ht,q⟩:=h;obtain⟨u,rfl,rx⟩:=vals1 r;cases rx;have hh:X.A.in1.handled=none:=I.ok.hd hc;have cmp:∀aA:List Value,Vals ys aA->vU X.prog X.w X.A.in1 s.heap (λi v=>aA.toArray[i]?=some v) (Cq (n::l)):=λaA rv=>by
  intro i j u v s' Q E old hi hj hQ;have t:=ht.real I rv;have hi:aA[i]?=some u:=by simpa using hi
  have hj:aA[j]?=some v:=by simpa using hj
  have li:=(b0.mp hi).1;have lj:=(b0.mp hj).1;obtain⟨a,a2,ea,ta,ia⟩:=(t.at li).keep old;obtain⟨b,b2,eb,tb,ib⟩:=(t.at lj).keep old;rw[dE,hi]at ea;rw[dE,hj]at eb;obtain rfl:u=.ref a:=ea;obtain rfl:v=.ref b:=eb;exact HT.jC ta tb ia ib hu hQ
 have fin:∀(aA:List Value) (v:Value) (h':Heap) (tk:Nat),Vals ys aA->aA.toArray[argBest (Cq (n::l)) (aA.toArray.size - 1)]?=some v->Cr s.heap h'->EP X ah σ Q v { s with heap:=h',toks:=tk}:=λaA v h' tk rv hv hk=>by
  have hl:aA.length=l.length+1:=(ht.real I rv).length;obtain⟨b1,b2⟩:=rS n l l.length (d5 _);rw[B1]at b2;rw[b6,hl,A9]at hv;have hv:aA[argBest (Cq (n::l)) l.length]?=some v:=by simpa using hv
  have hy:argBest (Cq (n::l)) l.length<ys.length:=by rw[rv.length];lia
  have rel:=lU rv hy;rw[dE (l:=aA),hv]at rel;exact⟨_,H,I.kept hk,rel,q _ hy b2⟩
 have pos:∀aA:List Value,Vals ys aA->0<aA.toArray.size:=λaA rv=>by rw[b6,(ht.real I rv).length];exact Nat.succ_pos _
 have ow:∀(b:Addr) (o:Obj),s.heap.get? b=some o->b∉[s⁻¹]:=λb o e hm=>by
  have:b=s⁻¹:=by simpa using hm
  exact absurd (eD e) (by rw[this];exact mB _)
 have X3:∀{hlt:p<s⁻¹}{o:Obj},∀b∈[s⁻¹,p],b<(s.heap.push o).objs.size:=λ{hlt o} b hb=>by
  rw[oC];simp only[dS,l8,AB]at hb;rcases hb with rfl |rfl
  . exact l5 _
  . exact tI hlt
 rcases hp with hp |hp
 .
  obtain⟨aA,rv,pl,hz⟩:=I.list hp;have hlt:p<s⁻¹:=by obtain⟨_,e,_⟩:=pl.isList;exact eD e
  refine gS (sR pl.isList ?_);exact⟨s⁻¹,_,_,_,_,_,_,rfl,CD (A:=X.A.in1) hh s⁻¹ p (hZ hlt) aA.toArray,⟨⟨_,eA _ rfl,rfl,rfl⟩,pl.isList.push _⟩,X3 (hlt:=hlt),pos aA rv,cmp aA rv,λb o e=>b7 _ e,ow,λv h' tk hP hk=>fin aA v h' tk rv hP hk⟩
 .
  obtain⟨aA,rv,pl,hz⟩:=I.tuple hp;have hlt:p<s⁻¹:=by obtain⟨_,e,_⟩:=pl;exact eD e
  have Gg:s.heap.IsTuple p aA.toArray:=pl;refine gS (t8 Gg ?_);exact⟨s⁻¹,_,_,_,_,_,_,rfl,Walks.tuple (A:=X.A.in1) hh s⁻¹ p (hZ hlt) aA.toArray,⟨⟨_,eA _ rfl,rfl,rfl⟩,IsTup.keeps Gg λb o e=>b7 _ e⟩,X3 (hlt:=hlt),pos aA rv,cmp aA rv,λb o e=>b7 _ e,ow,λv h' tk hP hk=>fin aA v h' tk rv hP hk⟩
theorem Lv{d:D}{l:List D}{n:List Int}{ns:List (List Int)}(hc:X.calm=true)(hu:X.A.units+1<cLine)(hK:z.K=X.K)(h:bF d=some l)(hi:dP l=some (n::ns)):CallD X z (.builtin "min") [d] (.dat (.tup ((nO n ns).map .int))):=by
 refine⟨_,Cv hc hu,λg σ As M H vs Q s p k=>?_⟩
 obtain⟨v,rfl,pv⟩:=p.one;have main:∀(a:Addr) (xs:List V),aH z.K M H l xs->(bY X.K H a xs\/fy X.K H a xs)->∃(p:Addr) (ys:List V) (n:List Int) (l:List (List Int)),[V.ref a]=[.ref p]/\(bY X.K H p ys\/fy X.K H p ys)/\jy X.K H ys (n::l)/\∀i,i<ys.length->(n::l).getD i []=nO n l->Q (ys.getD i .non) H:=λa xs rr hq=>by
  obtain⟨t1,t2,t3⟩:=rP rr hi;refine⟨a,xs,n,ns,rfl,hq,hK▸t1,λi hl e=>?_⟩
  have hd:i<l.length:=by rw[rr.length];exact hl
  obtain⟨v,e1,e2⟩:=rr.get (i:=i) (d:=l[i]) (by simp[hd])
  have q1:l[i]=.tup ((nO n ns).map .int):=by
   have hn:i<(n::ns).length:=by rw[t3,dC]at hd;exact hd
   rw[<- e,dE,gL hn];simp only[t3,List.getElem_map];rfl
  have q2:xs.getD i .non=v:=by rw[dE,e1];rfl
  rw[q2];exact k _ _ As M s (az.refl _ _) (q1▸e2)
 cases d with
 |lst m=>cases h;obtain⟨a,xs,rfl,e1,e2⟩:=pv.list;exact main a xs e2 (.inl (bY.of e1))
 |tup m=>cases h;obtain⟨a,xs,rfl,e1,e2⟩:=pv.tup;exact main a xs e2 (.inr (hK▸e1.sq))
 |fix m=>cases h;obtain⟨a,xs,rfl,e1,e2⟩:=pv.fix;exact main a xs e2 (.inl (hK▸e1.sq))
 |_=>cases h
end
open L2 PySem.W
section
variable{α:Type} [DecidableEq α] (O:gK α)
noncomputable def jN:List α->List α->Bool
 | [],[]=>false
 | [],_::_=>true
 |_::_,[]=>false
 |a::l,b::m=>if a=b then jN l m else O.lt a b
theorem kD:∀a:List α,jN O a a=false
 | []=>rfl
 |a::l=>by
  unfold jN;rw[eP rfl,kD l]
theorem zN:∀a b c:List α,jN O a b=true->jN O b c=true->jN O a c=true
 | [],[],_,h,_=>by cases h
 | [],_::_,[],_,h=>by cases h
 | [],_::_,_::_,_,_=>rfl
 |_::_,[],_,h,_=>by cases h
 |_::_,_::_,[],_,h=>by cases h
 |x::a,y::b,z::c,h,k=>by
  unfold jN at h k ⊢
  by_cases e:x=y
  .
   subst e;rw[eP rfl]at h;by_cases e2:x=z
   .
    rw[eP e2]at k ⊢
    exact zN a b c h k
   .
    rw[eQ e2]at k ⊢
    exact k
  .
   rw[eQ e]at h;by_cases e2:y=z
   . subst e2;rw[eQ e];exact h
   .
    rw[eQ e2]at k;have hx:=O.tr x y z h k;rw[eQ (λe3=>by rw[e3,O.irr]at hx;cases hx)]
    exact hx
theorem vW:∀a b:List α,jN O a b=false->jN O b a=false->a=b
 | [],[],_,_=>rfl
 | [],_::_,h,_=>by cases h
 |_::_,[],_,h=>by cases h
 |x::a,y::b,h,k=>by
  unfold jN at h k;by_cases e:x=y
  . subst e;rw[eP rfl]at h k;rw[vW a b h k]
  . rw[eQ e]at h;rw[eQ (tP e)]at k;exact absurd (O.tot x y h k) e
def linG:gK (List α):=⟨jN O,kD O,zN O,vW O⟩
end
def tW:gK (List (List Int)):=linG cT
def GX(A:Around)(s:Shared)(x y:Value)(b:Bool):Prop:=
 ∀(prog:Program) (w:World) (E:Value->Shared->Prop) (Q:Value->Shared->Prop),Q (.bool b) s->wpAny (model prog w) A (richCompare .Lt x y) Q E s
inductive DQ(A:Around)(s:Shared):List Value->List Value->Bool->Prop
 |nn:DQ A s [] [] false
 |nc {y:Value}{ws:List Value}:DQ A s [] (y::ws) true
 |cn {x:Value}{vs:List Value}:DQ A s (x::vs) [] false
 |eq {x y:Value}{vs ws:List Value}{b:Bool}:SeqAt.EqAt A s x y true->DQ A s vs ws b->DQ A s (x::vs) (y::ws) b
 |ne {x y:Value}{vs ws:List Value}{b:Bool}:SeqAt.EqAt A s x y false->GX A s x y b->DQ A s (x::vs) (y::ws) b
section
open PySem.SeqAt
open PySem.AutoSeq1 (wpAny_loadPart')
open PySem.MeetsSeq PySem.MeetsSeq2 PySem.MeetsSeq3
theorem yx(l b:Addr)(ao items2:Array Value)(n n2:Nat)(dd dd2:Option Addr)(sl sl2:Array (Option Value))(c:Bool) :
  Meets (Builtin.«tuple.__lt__» ⟨[.ref l,.ref b],[]⟩)
   (λA R s=>s.heap.get? l=some { cls:=.type "tuple",dict:=dd,data:=.seq ao n,slots:=sl}/\s.heap.get? b=some { cls:=.type "tuple",dict:=dd2,data:=.seq items2 n2,slots:=sl2}/\
    DQ A.in1 s ao.toList items2.toList c/\R (.ok (.ret (.bool c))) s):=
 .of_wp λprog w A R s h=>by
  obtain⟨hp,g,d,tk,os⟩:=s;obtain⟨hl,hb,hw,h⟩:=h;have f2:=AutoSeq1.sub_tuple_tuple
  wp_walk using AD hl,AD hb,wpAny_forIn_list _ (λrest b s'=>b.1=none/\s'=⟨hp,g,d,tk,os⟩/\∃(vs ws:List Value),rest=vs.zip ws/\
   DQ A.in1 ⟨hp,g,d,tk,os⟩ vs ws c/\vs.length+items2.size=ws.length+ao.size/\R (.ok (.ret (.bool c))) ⟨hp,g,d,tk,os⟩) _
  case turn=>
   rintro⟨y,x⟩ rest b s' ⟨hb',rfl,vs,ws,hz,hlt,aJ,hR⟩;cases hlt with
   |nn=>rw[BD]at hz;cases hz
   |nc=>rw[BD]at hz;cases hz
   |cn=>rw[List.zip_nil_right]at hz;cases hz
   |eq he ht=>
    rw[oD]at hz;injection hz with hyx hrest;injection hyx with hy hx;subst hy hx;simp only[eI]at aJ;refine a9 (he prog w _ _ ?_)
    wp_walk
    exact⟨rfl,rfl,_,_,hrest,ht,by lia,hR⟩
   |ne he ht=>
    rw[oD]at hz;injection hz with hyx hrest;injection hyx with hy hx;subst hy hx;refine a9 (he prog w _ _ ?_);have hri:=λE Q h=>ht prog w E Q h
    wp_walk using hri
    exact⟨_,rfl,by simpa using hR⟩
  case fin=>
   rintro⟨b1,b2⟩ s' ⟨hb',rfl,vs,ws,hz,hlt,aJ,hR⟩;simp only at hb';subst hb';have hv:c=decide (ao.size<items2.size):=by
    cases hlt with
    |nn=>simp only[tS]at aJ;exact (l6 ⋯).symm
    |nc=>simp only[tS,eI]at aJ;exact (lL ⋯).symm
    |cn=>simp only[tS,eI]at aJ;exact (l6 ⋯).symm
    |eq _ _=>rw[oD]at hz;cases hz
    |ne _ _=>rw[oD]at hz;cases hz
   rw[hv]at hR
   wp_walk
   exact⟨_,rfl,by simpa [Builtin.Tuple.tupleCompareSizes]using hR⟩
  case h=>exact⟨rfl,rfl,ao.toList,items2.toList,rfl,hw,by simp;lia,h⟩
end
section
variable{A:Around}{s:Shared}
theorem tY{l b:Addr}{ao items2:Array Value}{c:Bool}(hl:IsTup s.heap l ao)(hb:IsTup s.heap b items2)(hw:DQ A.in1 s ao.toList items2.toList c)(hu:A.units<cLine):GX A s (.ref l) (.ref b) c:=λprog w E Q h=>by
 obtain⟨⟨cls,dd,data,sl⟩,ho,hc,n,hd⟩:=id hl;obtain⟨⟨QB,dd2,data2,sl2⟩,ho2,hc2,n2,hd2⟩:=id hb;simp only at hc hd hc2 hd2;subst hc hd hc2 hd2;exact richCompare_meets_room (op:=.Lt) ⟨_,ho,rfl⟩ ⟨_,ho2,rfl⟩ PySem.F.slot_tuple_lt PySem.F.entry_tuple_lt (PySem.F.args_tuple_lt_2 _ _) (yx l b ao items2 n n2 dd dd2 sl sl2 c)
  ⟨ho,ho2,hw,show Value.bool c≠Value.notImplemented/\Q (.bool c) s from⟨(λx=>nomatch x),h⟩⟩ hu
end
theorem Dv.keep{h h':Heap}(k:Cr h h'){d:D}{u:Value}(q:Dv h d u):Dv h' d u:=by
 refine Dv.rec (motive_1:=λd u _=>Dv h' d u) (motive_2:=λl us _=>jZ h' l us) ?_ ?_ ?_ ?_ ?_ ?_ ?_ ?_ ?_ q
 . exact .non
 . exact λb=>.bl b
 . exact λi t=>.int i t
 . exact λx t=>.str x t
 . exact λx _ ih=>.tup (x.keeps k) ih
 . exact λx _ ih=>.lst (let ⟨o,e,r⟩:=x;⟨o,k _ _ e,r⟩) ih
 . exact λx _ ih=>.fix (let ⟨o,e,r⟩:=x;⟨o,k _ _ e,r⟩) ih
 . exact .nil
 . exact λ_ _ a b=>.cons a b
theorem tZ:∀a b:List Int,cR (a.map .int) (b.map .int)=decide (a=b)
 | [],[]=>rfl
 | [],_::_=>rfl
 |_::_,[]=>rfl
 |x::a,y::b=>by
  simp only[List.map_cons,cR,cD,tZ a b,Bi,Cf];rfl
theorem pK:∀a b:List (List Int),cR (a.map λx=>.tup (x.map .int)) (b.map λx=>.tup (x.map .int))=decide (a=b)
 | [],[]=>rfl
 | [],_::_=>rfl
 |_::_,[]=>rfl
 |x::a,y::b=>by
  simp only[List.map_cons,cR,cD,pK a b,tZ,Bi,Cf]
theorem vX(l:List Int):deps (l.map .int)=0:=by
 induction l with
 |nil=>rfl
 |cons a l ih=>simp[deps,dep,ih]
theorem vY(l:List (List Int)):deps (l.map λx=>.tup (x.map .int))<=1:=by
 induction l with
 |nil=>exact u4 _
 |cons a l ih=>simp only[List.map_cons,deps,dep,vX];lia
theorem GZ(l:List Int):fc (l.map .int)=true:=by
 induction l with
 |nil=>rfl
 |cons a l ih=>simp[fc,gF,ih]
theorem G0(l:List (List Int)):fc (l.map λx=>.tup (x.map .int))=true:=by
 induction l with
 |nil=>rfl
 |cons a l ih=>simp only[List.map_cons,fc,gF,GZ,ih];rfl
noncomputable def vZ:List (List Int)->D
 | [m]::ts=>.tup [.int m,.tup (ts.map λx=>.tup (x.map .int))]
 |_=>.non
def Lw:D->Option (List (List Int))
 |.tup [.int m,.tup l]=>(match dP l with |some ts=>some ([m]::ts) |none=>none)
 |_=>none
def jz:List D->Option (List (List (List Int)))
 | []=>some []
 |d::l=>(match Lw d with |some k=>(match jz l with |some ks=>some (k::ks) |none=>none) |none=>none)
theorem zO:∀{l:List D}{dG:List (List Int)},dP l=some dG->l=dG.map λns=>.tup (ns.map .int)
 | [],_,e=>by cases e;rfl
 |d::l,dG,e=>by
  cases d with
  |tup m=>
   unfold dP at e;split at e
   . rename_i n ns dG e1 e2;cases e;rw[List.map_cons,<- zO e2,zG e1]
   . cases e
  |_=>cases e
theorem Lx{d:D}{k:List (List Int)}(e:Lw d=some k):∃m ts,k=[m]::ts/\d=vZ k:=by
 unfold Lw at e;split at e
 .
  rename_i m l;split at e
  . rename_i ts e1;cases e;refine⟨m,ts,rfl,?_⟩;rw[zO e1];rfl
  . cases e
 . cases e
theorem kF:∀{l:List D}{ks:List (List (List Int))},jz l=some ks->l=ks.map vZ/\∀k∈ks,∃m ts,k=[m]::ts
 | [],_,e=>by cases e;exact⟨rfl,λ_ z=>nomatch z⟩
 |d::l,ks,e=>by
  unfold jz at e;split at e
  .
   rename_i k e1;split at e
   . rename_i ks e2;cases e;obtain⟨h1,h2⟩:=kF e2;obtain⟨m,ts,h3,h4⟩:=Lx e1;exact⟨by rw[List.map_cons,<- h1,<- h4],λk hk=>(dS.mp hk).elim (λz=>⟨m,ts,by rw[z];exact h3⟩) (h2 k)⟩
   . cases e
  . cases e
theorem jZ.ints{h:Heap}:∀{ns:List Int}{us:List Value},jZ h (ns.map .int) us->IntsAre us ns
 | [],us,q=>by cases q;exact .nil
 |n::ns,us,q=>by
  cases q with
  |cons a b=>cases a;exact .cons _ _ b.ints
section
variable{A:Around}{s:Shared}
theorem uc:∀{ts ss:List (List Int)}{us ws:List Value},jZ s.heap (ts.map λx=>.tup (x.map .int)) us->jZ s.heap (ss.map λx=>.tup (x.map .int)) ws->A.units+1<cLine->DQ A s us ws (jN cT ts ss)
 | [],[],_,_,q,q',_=>by cases q;cases q';exact .nn
 | [],_::_,_,_,q,q',_=>by cases q;cases q';exact .nc
 |_::_,[],_,_,q,q',_=>by cases q;cases q';exact .cn
 |t::ts,x::ss,_,_,q,q',hu=>by
  cases q with
  |cons a b=>
   cases q' with
   |cons a' b'=>
    have he:=(rG (A:=A) 1 (by simp only[dep,vX];lia) a a' hu).1
    have e1:cD (.tup (t.map .int)) (.tup (x.map .int))=decide (t=x):=tZ t x;rw[e1]at he;unfold jN;by_cases e:t=x
    . rw[lL e]at he;rw[eP e];exact .eq he (uc b b' hu)
    .
     rw[l6 e]at he;rw[eQ e];cases a with
     |tup i1 v1=>
      cases a' with
      |tup i2 v2=>exact .ne he λprog w E Q h=>HT.jC i1 i2 v1.ints v2.ints ⋯ h
theorem Ly{m n:Int}{t1 t2:Tok}{ts ss:List (List Int)}{p q:Value}(x:Dv s.heap (.tup (ts.map λx=>.tup (x.map .int))) p)(y:Dv s.heap (.tup (ss.map λx=>.tup (x.map .int))) q)(hu:A.units+2<cLine):DQ A s [.int m t1,p] [.int n t2,q] (tW.lt ([m]::ts) ([n]::ss)):=by
 obtain⟨e,he,hi⟩:=HT.u6 A s m t1 n t2;show DQ A s _ _ (if [m]=[n]then jN cT ts ss else HT.lexLt [m] [n])
 cases e with
 |true=>
  have hmn:m=n:=hi.mp rfl;rw[eP (by rw[hmn])]
  refine .eq he ?_;have h2:=(rG (A:=A) 2 (by have:=vY ts;simp only[dep];lia) x y hu).1
  have e1:cD (.tup (ts.map λx=>.tup (x.map .int))) (.tup (ss.map λx=>.tup (x.map .int)))=decide (ts=ss):=pK ts ss
  rw[e1]at h2;by_cases e3:ts=ss
  . rw[lL e3]at h2;rw[e3,kD];exact .eq h2 .nn
  .
   rw[l6 e3]at h2;cases x with
   |tup i1 v1=>
    cases y with
    |tup i2 v2=>exact .ne h2 (tY i1 i2 (uc (A:=A.in1) v1 v2 (by rw[in1_units];lia)) ⋯)
 |false=>
  have hmn:m≠n:=λz=>hU (hi.mpr z)
  rw[eQ (by simpa using hmn)]
  refine .ne he λprog w E Q h=>HT.u9 A s m t1 n t2 prog w E Q ?_
  rw[HT.cH,eQ hmn]at h;exact h
theorem S0{k1 k2:List (List Int)}{u1 u2:Value}(h1:∃m ts,k1=[m]::ts)(h2:∃m ts,k2=[m]::ts)(x:Dv s.heap (vZ k1) u1)(y:Dv s.heap (vZ k2) u2)(hu:A.units+3<cLine):GX A s u1 u2 (tW.lt k1 k2):=by
 obtain⟨m,ts,rfl⟩:=h1;obtain⟨n,ss,rfl⟩:=h2;cases x with
 |tup i1 v1=>
  cases y with
  |tup i2 v2=>
   cases v1 with
   |cons a b=>
    cases b with
    |cons b c=>
     cases c;cases a;cases v2 with
     |cons a' b'=>
      cases b' with
      |cons b' c'=>cases c';cases a';exact tY i1 i2 (Ly (A:=A.in1) b b' (by rw[in1_units];lia)) ⋯
end
open L2 PySem.W
noncomputable def kG{α:Type}(O:gK α)(n:α):List α->α
 | []=>n
 |m::l=>kG O (if O.lt m n then m else n) l
section
variable{α:Type}(O:gK α)(d0:α)
theorem rT:∀(l:List α) (n m:α),kG O n (l++[m])=if O.lt m (kG O n l)then m else kG O n l
 | [],_,_=>rfl
 |_::l,_,m=>rT l _ m
abbrev ltAt(L:List α)(i j:Nat):Bool:=O.lt (L.getD i d0) (L.getD j d0)
theorem rW(n:α)(l:List α):∀k,k<=l.length->argBest (ltAt O d0 (n::l)) k<=k/\(n::l).getD (argBest (ltAt O d0 (n::l)) k) d0=kG O n (l.take k)
 | 0,_=>⟨d5 _,rfl⟩
 |k+1,hk=>by
  obtain⟨h0,h1⟩:=rW n l k (Nat.le_of_succ_le hk);have hlt:k<l.length:=hk;have e:(n::l).getD (k+1) d0=l[k]:=by simp[hlt]
  have e2:l.take (k+1)=l.take k++[l[k]]:=List.take_succ_eq_append_getElem hlt;rw[e2,rT,<- h1,<- e];show (if ltAt O d0 (n::l) (k+1) (argBest (ltAt O d0 (n::l)) k)then k+1 else argBest (ltAt O d0 (n::l)) k)<=k+1/\(n::l).getD (if ltAt O d0 (n::l) (k+1) (argBest (ltAt O d0 (n::l)) k)then k+1 else argBest (ltAt O d0 (n::l)) k) d0=_
  unfold ltAt;split
  . exact⟨d5 _,rfl⟩
  . exact⟨Nat.le_succ_of_le h0,rfl⟩
end
theorem ud{κ:Type}{un:κ->D}:∀{l:List κ},(∀k∈l,gF (un k)=true)->fc (l.map un)=true
 | [],_=>rfl
 |k::l,h=>by
  show (gF (un k)&&fc (l.map un))=true;rw[h k bP,ud λx hx=>h x (aS _ hx)]
  rfl
section
variable{X:Cx}{z:Z}{κ:Type}{O:gK κ}{d0:κ}{un:κ->D}{good:κ->Prop}
theorem Cw(hc:X.calm=true)(jw:∀k,good k->gF (un k)=true)(hlt:∀(s:Shared) k1 k2 u1 u2,good k1->good k2->Dv s.heap (un k1) u1->Dv s.heap (un k2) u2->GX X.A.in1 s u1 u2 (O.lt k1 k2)) :
  dO X (.builtin "min") (λxs H Q=>∃(p:Addr) (ys:List V) (M:List Addr) (n:κ) (l:List κ),xs=[.ref p]/\(bY X.K H p ys\/fy X.K H p ys)/\aH X.K M H ((n::l).map un) ys/\(∀k∈n::l,good k)/\
   ∀i,i<ys.length->(n::l).getD i d0=kG O n l->Q (ys.getD i .non) H):=by
 intro ah s σ H xs us Q I r h;obtain⟨p,ys,M,n,l,rfl,hp,ht,hg,q⟩:=h;obtain⟨u,rfl,rx⟩:=vals1 r;cases rx;have hh:X.A.in1.handled=none:=I.ok.hd hc;have hys:ys.length=l.length+1:=by rw[<- ht.length,dC,eI]
 have cmp:∀aA:List Value,Vals ys aA->vU X.prog X.w X.A.in1 s.heap (λi v=>aA.toArray[i]?=some v) (ltAt O d0 (n::l)):=λaA rv=>by
  intro i j u v s' Q E old hi hj hQ;have t:=aH.dv I ht rv (ud λk hk=>jw k (hg k hk))
  have hi:aA[i]?=some u:=by simpa using hi
  have hj:aA[j]?=some v:=by simpa using hj
  obtain⟨d1,e1,v1⟩:=t.get hi;obtain⟨d2,e2,v2⟩:=t.get hj;rw[nE]at e1 e2;obtain⟨k1,f1,rfl⟩:=sK.mp e1;obtain⟨k2,f2,rfl⟩:=sK.mp e2;have g1:(n::l).getD i d0=k1:=by rw[dE,f1];rfl
  have g2:(n::l).getD j d0=k2:=by rw[dE,f2];rfl
  have hQ:Q (.bool (O.lt k1 k2)) s':=by rw[<- g1,<- g2];exact hQ
  exact hlt s' k1 k2 u v (hg k1 (i5 f1)) (hg k2 (i5 f2)) (v1.keep old) (v2.keep old) X.prog X.w E Q hQ
 have fin:∀(aA:List Value) (v:Value) (h':Heap) (tk:Nat),Vals ys aA->aA.toArray[argBest (ltAt O d0 (n::l)) (aA.toArray.size - 1)]?=some v->Cr s.heap h'->EP X ah σ Q v { s with heap:=h',toks:=tk}:=λaA v h' tk rv hv hk=>by
  have hl:aA.length=l.length+1:=by rw[<- rv.length,hys]
  obtain⟨b1,b2⟩:=rW O d0 n l l.length (d5 _);rw[B1]at b2;rw[b6,hl,A9]at hv;have hv:aA[argBest (ltAt O d0 (n::l)) l.length]?=some v:=by simpa using hv
  have hy:argBest (ltAt O d0 (n::l)) l.length<ys.length:=by lia
  have rel:=lU rv hy;rw[dE (l:=aA),hv]at rel;exact⟨_,H,I.kept hk,rel,q _ hy b2⟩
 have pos:∀aA:List Value,Vals ys aA->0<aA.toArray.size:=λaA rv=>by rw[b6,<- rv.length,hys];exact Nat.succ_pos _
 have ow:∀(b:Addr) (o:Obj),s.heap.get? b=some o->b∉[s⁻¹]:=λb o e hm=>by
  have:b=s⁻¹:=by simpa using hm
  exact absurd (eD e) (by rw[this];exact mB _)
 have X3:∀{hlt:p<s⁻¹}{o:Obj},∀b∈[s⁻¹,p],b<(s.heap.push o).objs.size:=λ{hlt o} b hb=>by
  rw[oC];simp only[dS,l8,AB]at hb;rcases hb with rfl |rfl
  . exact l5 _
  . exact tI hlt
 rcases hp with hp |hp
 .
  obtain⟨aA,rv,pl,hz⟩:=I.list hp;have hlt:p<s⁻¹:=by obtain⟨_,e,_⟩:=pl.isList;exact eD e
  refine gS (sR pl.isList ?_);exact⟨s⁻¹,_,_,_,_,_,_,rfl,CD (A:=X.A.in1) hh s⁻¹ p (hZ hlt) aA.toArray,⟨⟨_,eA _ rfl,rfl,rfl⟩,pl.isList.push _⟩,X3 (hlt:=hlt),pos aA rv,cmp aA rv,λb o e=>b7 _ e,ow,λv h' tk hP hk=>fin aA v h' tk rv hP hk⟩
 .
  obtain⟨aA,rv,pl,hz⟩:=I.tuple hp;have hlt:p<s⁻¹:=by obtain⟨_,e,_⟩:=pl;exact eD e
  have Gg:s.heap.IsTuple p aA.toArray:=pl;refine gS (t8 Gg ?_);exact⟨s⁻¹,_,_,_,_,_,_,rfl,Walks.tuple (A:=X.A.in1) hh s⁻¹ p (hZ hlt) aA.toArray,⟨⟨_,eA _ rfl,rfl,rfl⟩,IsTup.keeps Gg λb o e=>b7 _ e⟩,X3 (hlt:=hlt),pos aA rv,cmp aA rv,λb o e=>b7 _ e,ow,λv h' tk hP hk=>fin aA v h' tk rv hP hk⟩
theorem Lz{d:D}{n:κ}{ns:List κ}(hc:X.calm=true)(jw:∀k,good k->gF (un k)=true)(hlt:∀(s:Shared) k1 k2 u1 u2,good k1->good k2->Dv s.heap (un k1) u1->Dv s.heap (un k2) u2->GX X.A.in1 s u1 u2 (O.lt k1 k2))(hK:z.K=X.K)(h:bF d=some ((n::ns).map un))(hg:∀k∈n::ns,good k) :
  CallD X z (.builtin "min") [d] (.dat (un (kG O n ns))):=by
 refine⟨_,Cw (d0:=n) hc jw hlt,λg σ As M H vs Q s p k=>?_⟩
 obtain⟨v,rfl,pv⟩:=p.one;have main:∀(a:Addr) (xs:List V),aH z.K M H ((n::ns).map un) xs->(bY X.K H a xs\/fy X.K H a xs)->∃(p:Addr) (ys:List V) (M:List Addr) (m:κ) (l:List κ),[V.ref a]=[.ref p]/\(bY X.K H p ys\/fy X.K H p ys)/\aH X.K M H ((m::l).map un) ys/\(∀k∈m::l,good k)/\∀i,i<ys.length->(m::l).getD i n=kG O m l->Q (ys.getD i .non) H:=λa xs rr hq=>by
  refine⟨a,xs,M,n,ns,rfl,hq,hK▸rr,hg,λi hl e=>?_⟩
  have hd:i<(n::ns).length:=by have:=rr.length;rw[dC]at this;lia
  obtain⟨v,e1,e2⟩:=rr.get (i:=i) (d:=un (kG O n ns)) (by
   rw[nE,gL hd,<- e,dE,gL hd];rfl)
  have q2:xs.getD i .non=v:=by rw[dE,e1];rfl
  rw[q2];exact k _ _ As M s (az.refl _ _) e2
 cases d with
 |lst m=>cases h;obtain⟨a,xs,rfl,e1,e2⟩:=pv.list;exact main a xs e2 (.inl (bY.of e1))
 |tup m=>cases h;obtain⟨a,xs,rfl,e1,e2⟩:=pv.tup;exact main a xs e2 (.inr (hK▸e1.sq))
 |fix m=>cases h;obtain⟨a,xs,rfl,e1,e2⟩:=pv.fix;exact main a xs e2 (.inl (hK▸e1.sq))
 |_=>cases h
def LC(h:Heap)(u:Value):Prop:=∃(a:Addr) (o:Obj) (i:Int) (t:Tok) (r:List Value) (n:Nat),u=.ref a/\h.get? a=some o/\o.cls=.type "tuple" /\o.data=.seq (Value.int i t::r).toArray n
theorem rX{h:Heap}:∀{vs:List Value},(∀v∈vs,LC h v)->∃fs:List Value,KatTups h vs fs/\fs.length=vs.length/\∀v∈fs,∃i t,v=.int i t
 | [],_=>⟨[],.nil,rfl,λ_ z=>nomatch z⟩
 |v::vs,hv=>by
  obtain⟨fs,q1,q2,q3⟩:=rX λx hx=>hv x (aS _ hx)
  obtain⟨a,o,i,t,r,n,rfl,e1,e2,e3⟩:=hv v bP;exact⟨_::fs,KatTups.cons e1 e2 e3 rfl q1,by rw[eI,eI,q2],λv hv=>(dS.mp hv).elim (λz=>⟨_,_,z⟩) (q3 v)⟩
theorem uf(jw:∀k,good k->gF (un k)=true)(hf:∀(h:Heap) k u,good k->Dv h (un k) u->LC h u)
  (hlt:∀(s:Shared) k1 k2 u1 u2 (C:Bool->Shared->Prop),good k1->good k2->Dv s.heap (un k1) u1->Dv s.heap (un k2) u2->C (O.lt k1 k2) s->wpAny (model X.prog X.w) X.A.in1.in1 (keyLt' (tuples' true) u1 u2) C (λ_ _=>False) s) :
  dO X (.builtin "sorted") (λxs H Q=>∃(p:Addr) (ys:List V) (M:List Addr) (l:List κ),xs=[.ref p]/\(bY X.K H p ys\/fy X.K H p ys)/\aH X.K M H (l.map un) ys/\(∀k∈l,good k)/\l.length<64/\
  ∀q (o:List Nat),H q=none->(∀i∈o,i<ys.length)->o.map (λi=>l.getD i d0)=bV O l->Q (.ref q) (upd H q (.lst (o.map λi=>ys.getD i .non)))):=by
 intro ah s σ H xs us Q I r h;obtain⟨p,ys,M,l,rfl,hq,ht,hg,hl,q⟩:=h;obtain⟨u,rfl,rx⟩:=vals1 r;cases rx;have hyl:ys.length=l.length:=by rw[<- ht.length,dC]
 have fin:∀aA:List Value,Vals ys aA->(s.heap.IsList p aA.toArray\/IsTup s.heap p aA.toArray)->wpAny (model X.prog X.w) X.A (call (.builtin "sorted") [.ref p]) (EP X ah σ Q) X.xe s:=λaA r' pl=>by
  have aJ:=r'.length;have dv:=aH.dv I ht r' (ud λk hk=>jw k (hg k hk))
  have at_:∀{h:Heap}{i:Nat},Cr s.heap h->i<aA.length->good (l.getD i d0)/\Dv h (un (l.getD i d0)) (aA.getD i Value.none):=λ{h i} hk hi=>by
   obtain⟨d1,e1,v1⟩:=dv.get (gL hi);rw[nE]at e1;obtain⟨k1,f1,rfl⟩:=sK.mp e1;have g1:l.getD i d0=k1:=by rw[dE,f1];rfl
   have g2:aA.getD i Value.none=aA[i]:=by rw[dE,gL hi];rfl
   rw[g1,g2];exact⟨hg k1 (i5 f1),v1.keep hk⟩
  have hz:aA.length<=sizeLine:=by rw[mI];lia
  have done:∀o:List Nat,o.Perm (List.range aA.length)->o.map (λi=>l.getD i d0)=bV O l->EP X ah σ Q (.ref (s⁻¹+1)) { s with heap:=sortedAll s.heap aA (o.map λi=>aA.getD i Value.none).toArray}:=λo ho hs=>by
   obtain⟨ep,he⟩:=sortedAll_at s.heap aA (o.map λi=>aA.getD i Value.none).toArray
   have hin:∀i∈o,i<ys.length:=λi hi=>by rw[aJ];exact lS.mp (ho.mem_iff.mp hi)
   have XC:o.length=ys.length:=by rw[ho.length_eq,AK,aJ]
   refine⟨.ref (s⁻¹+1),_,I.laid (t':=s.toks) (o:=.lst (o.map λi=>ys.getD i .non)) (λb ob e=>sortedAll_old e) (wE _) ?_,rfl,q _ o (I.hok.fresh (wE _)) hin hs⟩
   exact⟨by rw[dC,mI];lia,_,ep,lV r' hin,he⟩
  refine rN pl hz ?_;have hil:aA.length=l.length:=by lia
  by_cases h2:aA.length<2
  .
   refine vG (kB _ _) h2 ⟨rfl,?_⟩;have:=done (List.range aA.length) (oI _) (by
    rw[hil,cL]
    match l,hil with
    | [],_=>rfl
    | [x],_=>rfl
    |_::_::_,hl2=>rw[hl2,eI,eI]at h2;lia)
   rw[cL]at this;exact this
  .
   have keep:Cr s.heap (dc { s with heap:=yc s.heap aA} (s⁻¹+1) aA).heap:=λb o e=>mX (kC (vs:=aA) e).2 (kC e).1
   refine vF (κ:=tuples' true) (O:=O) (key:=λi=>l.getD i d0) (kB _ _) ⋯ ⋯ (λQ' hq=>?_) (λi j C hi hj hC=>?_) λp hp hr=>⟨rfl,?_⟩
   .
    obtain⟨fs,q1,q2,q3⟩:=rX (h:=(dc { s with heap:=yc s.heap aA} (s⁻¹+1) aA).heap) (vs:=aA) λv hv=>by
     obtain⟨i,hi,rfl⟩:=AU hv;obtain⟨g1,g2⟩:=at_ keep hi;have g3:aA.getD i Value.none=aA[i]:=by rw[dE,gL hi];rfl
     rw[g3]at g2;exact hf _ _ _ g1 g2
    exact kat_kind (T:=.type "int") q1 ⋯ (λv hv=>by obtain⟨i,t,rfl⟩:=q3 v hv;exact rO) ⋯ hq
   . obtain⟨g1,v1⟩:=at_ keep hi;obtain⟨g2,v2⟩:=at_ keep hj;exact hlt _ _ _ _ _ C g1 g2 v1 v2 hC
   . rw[hil]at hp hr;exact done p.toList (by rw[hil];exact (wS.mp hp).trans ⋯) (mZ hp hr)
 rcases hq with hq |hq
 . obtain⟨aA,r',pl,hz⟩:=I.list hq;exact fin aA r' (.inl pl.isList)
 . obtain⟨aA,r',pl,hz⟩:=I.tuple hq;exact fin aA r' (.inr pl)
theorem yy{d:D}{l:List κ}(jw:∀k,good k->gF (un k)=true)(hf:∀(h:Heap) k u,good k->Dv h (un k) u->LC h u)
  (hlt:∀(s:Shared) k1 k2 u1 u2 (C:Bool->Shared->Prop),good k1->good k2->Dv s.heap (un k1) u1->Dv s.heap (un k2) u2->C (O.lt k1 k2) s->wpAny (model X.prog X.w) X.A.in1.in1 (keyLt' (tuples' true) u1 u2) C (λ_ _=>False) s)
  (d0:κ) (hK:z.K=X.K) (h:bF d=some (l.map un)) (hg:∀k∈l,good k) (hl:l.length<64):CallD X z (.builtin "sorted") [d] (.new ((bV O l).map un)):=by
 refine⟨_,uf (d0:=d0) jw hf hlt,λg σ As M H vs Q s p k=>?_⟩
 obtain⟨v,rfl,pv⟩:=p.one;have main:∀(a:Addr) (xs:List V),aH z.K M H (l.map un) xs->(bY X.K H a xs\/fy X.K H a xs)->∃(p:Addr) (ys:List V) (M:List Addr) (l:List κ),[V.ref a]=[.ref p]/\(bY X.K H p ys\/fy X.K H p ys)/\aH X.K M H (l.map un) ys/\(∀k∈l,good k)/\l.length<64/\
   ∀q (o:List Nat),H q=none->(∀i∈o,i<ys.length)->o.map (λi=>l.getD i d0)=bV O l->Q (.ref q) (upd H q (.lst (o.map λi=>ys.getD i .non))):=λa xs rr hq=>by
  have aJ:xs.length=l.length:=by rw[<- rr.length,dC]
  refine⟨a,xs,M,l,rfl,hq,hK▸rr,hg,hl,λq o hf hin hs=>?_⟩
  have e:(bV O l).map un=o.map λi=>(l.map un).getD i .non:=by
   rw[<- hs,List.map_map];refine kS λi hi=>?_
   have:i<l.length:=by rw[<- aJ];exact hin i hi
   simp[this]
  have rr':=(rr.pick hin).stay (az.aW (o:=.lst (o.map λi=>xs.getD i .non)) hf)
  refine k _ _ As (q::M) (s.aW hf) (az.aW hf) ⟨q,_,rfl,bP,λhA=>s.fresh hf (s.sub q hA),s.cI hf,aI,?_⟩
  rw[e];exact rr'
 cases d with
 |lst m=>cases h;obtain⟨a,xs,rfl,e1,e2⟩:=pv.list;exact main a xs e2 (.inl (bY.of e1))
 |tup m=>cases h;obtain⟨a,xs,rfl,e1,e2⟩:=pv.tup;exact main a xs e2 (.inr (hK▸e1.sq))
 |fix m=>cases h;obtain⟨a,xs,rfl,e1,e2⟩:=pv.fix;exact main a xs e2 (.inl (hK▸e1.sq))
 |_=>cases h
end
def VF(k:List (List Int)):Prop:=∃m ts,k=[m]::ts
theorem zP(k:List (List Int))(h:VF k):gF (vZ k)=true:=by
 obtain⟨m,ts,rfl⟩:=h;show fc [.int m,.tup (ts.map λx=>.tup (x.map .int))]=true
 simp only[fc,gF,G0];rfl
theorem LK(h:Heap)(k:List (List Int))(u:Value)(hk:VF k)(q:Dv h (vZ k) u):LC h u:=by
 obtain⟨m,ts,rfl⟩:=hk;cases q with
 |tup i v=>
  cases v with
  |cons a b=>cases a;obtain⟨o,e1,e2,n,e3⟩:=i;exact⟨_,o,_,_,_,n,rfl,e1,e2,e3⟩
section
variable{X:Cx}{z:Z}
theorem LQ{prog:Program}{w:World}{A:Around}{s:Shared}(hu:A.units+3<cLine)(k1 k2:List (List Int))(u1 u2:Value)(C:Bool->Shared->Prop)(h1:VF k1)(h2:VF k2)(x:Dv s.heap (vZ k1) u1)(y:Dv s.heap (vZ k2) u2)(h:C (tW.lt k1 k2) s):wpAny (model prog w) A (keyLt' (tuples' true) u1 u2) C (λ_ _=>False) s:=by
 obtain⟨m,ts,rfl⟩:=h1;obtain⟨n,ss,rfl⟩:=h2;cases x with
 |tup i1 v1=>
  cases y with
  |tup i2 v2=>
   cases v1 with
   |cons a b=>
    cases b with
    |cons b c=>
     cases c;cases a;cases v2 with
     |cons a' b'=>
      cases b' with
      |cons b' c'=>
       cases c';cases a';rename_i t1 p1 _ t2 p2;obtain⟨o,e1,e2,n1,e3⟩:=i1;obtain⟨o2,e4,e5,n2,e6⟩:=i2;have h':C (if [m]=[n]then jN cT ts ss else HT.lexLt [m] [n]) s:=h
       refine kat_lt e1 e3 e4 e6 ?_;show KatLex prog w A true false C [_,_] 0 s;refine kat_cons (wpAny_eqBool_int (kat_go (λe=>?_) (λe=>?_)))
       .
        have e':m=n:=eq_of_beq e;rw[eP (by rw[e'])]at h'
        refine kat_yes (kat_cons ?_);have q:=(rG (A:=A) (s:=s) 2 (by have:=vY ts;simp only[dep];lia) b b' ⋯).1
        rw[show cD (.tup (ts.map λx=>.tup (x.map .int))) (.tup (ss.map λx=>.tup (x.map .int)))=decide (ts=ss)from pK ts ss]at q
        by_cases e3:ts=ss
        . rw[lL e3]at q;rw[e3,kD]at h';exact q prog w _ _ (kat_yes (kat_nil h'))
        .
         rw[l6 e3]at q;refine q prog w _ _ (kat_no (kat_one _ _ ?_));cases b with
         |tup j1 w1=>
          cases b' with
          |tup j2 w2=>exact tY j1 j2 (uc (A:=A.in1) w1 w2 (by rw[in1_units];lia)) ⋯ prog w _ _ h'
       .
        have e':m≠n:=λq=>by rw[q]at e;simp at e
        rw[eQ (by simpa using e'),HT.cH,eQ e']at h'
        exact kat_no (oneLt_int h')
theorem LR{d:D}{l:List D}{k:List (List Int)}{ks:List (List (List Int))}(hc:X.calm=true)(hu:X.A.units+6<cLine)(hK:z.K=X.K)(h:bF d=some l)(hi:jz l=some (k::ks)):CallD X z (.builtin "min") [d] (.dat (vZ (kG tW k ks))):=by obtain⟨h1,h2⟩:=kF hi;rw[h1]at h;exact Lz (good:=VF) hc zP (λs k1 k2 u1 u2 g1 g2 x y=>S0 g1 g2 x y (by rw[in1_units];lia)) hK h h2
theorem yz{d:D}{l:List D}{ks:List (List (List Int))}(hu:X.A.units+6<cLine)(hK:z.K=X.K)(h:bF d=some l)(hi:jz l=some ks)(hl:ks.length<64):CallD X z (.builtin "sorted") [d] (.new ((bV tW ks).map vZ)):=by obtain⟨h1,h2⟩:=kF hi;rw[h1]at h;exact yy (good:=VF) zP LK (λs k1 k2 u1 u2 C g1 g2 x y q=>LQ (by rw[in1_units,in1_units];lia) k1 k2 u1 u2 C g1 g2 x y q) [] hK h h2 hl
end
inductive Bl where
 |len |list |tuple |max |min |str |all |sorted |sum |any
 deriving DecidableEq
inductive Mt where
 |count |index
 deriving DecidableEq
set_option genInjectivity false in
inductive Ex where
 |val (d:D) |slot (i:Nat)
 |bin (op:Operator) (a b:Ex) |cmp (op:CmpOp) (a b:Ex) |chain (a:Ex) (ops:List CmpOp) (l:List Ex)
 |neg (a:Ex) |not (a:Ex) |and (l:List Ex) |or (l:List Ex) |ite (c a b:Ex)
 |tup (l:List Ex) |lst (l:List Ex)
 |ix (a b:Ex) |slice (a:Ex) (lo hi:Option Ex)
 |call (f:Nat) (l:List Ex) |blt (b:Bl) (l:List Ex) |pL (a:Ex) (n:String)
 |comp (n k:Nat) (T:Tg) (it:Ex) (c:Option Ex) (e:Ex)
 |iF (n k:Nat) (T:Tg) (it:Ex) (ks:List Ex) (v:Ex)
 |bN (n k:Nat) (T1:Tg) (j3:Ex) (c1:Option Ex) (T:Tg) (it:Ex) (c:Option Ex) (e:Ex)
 |cM (a:Ex) |cO (a b:Ex) |cU (a:Ex) |fU (a b:Ex)
 |nP (a b c:Ex) |enum (a:Ex) |iG (a:Ex) |meth (m:Mt) (o e:Ex)
 |append (i:Nat) (e:Ex) |extend (i:Nat) (e:Ex) |gZ (i:Nat) (e:Ex)
set_option genInjectivity false in
inductive Sm where
 |ret (e:Ex) |expr (e:Ex) |set (i:Nat) (e:Ex) |setC (i:Nat) (e:Ex) |tgt (T:Tg) (e:Ex) |item (i:Nat) (j e:Ex) |aug (i:Nat) (op:Operator) (e:Ex)
 |items2 (i:Nat) (x:Ex) (j:Nat) (y:Ex) (e:Ex)
 |ite (c:Ex) (a b:List Sm) |loop (T:Tg) (it:Ex) (b:List Sm) |while (c:Ex) (b:List Sm) |rows (im it iy ia ib:Nat) |stuck
structure Fx where
 np:Nat
 n:Nat
 body:List Sm
def Tg.fL:Tg->Bool
 |.tp _=>true
 |.nm _=>false
noncomputable def jO(i j:Int):Bool:=(decide (-(2 ^ 64)<i)&&decide (i<2 ^ 64))||(decide (-(2 ^ 64)<j)&&decide (j<2 ^ 64))
def lim:Nat:=16777216
noncomputable def kH{α:Type}(f:Int->Int->Option α)(a b:D):Option α:=match a with
 |.int i=>(match b with |.int j=>f i j |_=>none)
 |_=>none
noncomputable def G3(a b:D):Option R:=match a with
 |.int i=>(match b with |.int j=>some (.dat (.int (i+j))) |_=>none)
 |.lst l=>(match b with |.lst m=>if l.length+m.length<=lim then some (.new (l++m))else none |_=>none)
 |.tup l=>(match b with |.tup m=>if l.length+m.length<=lim then some (.dat (.tup (l++m)))else none |_=>none)
 |_=>none
def LW(a:D)(k:Int):Option R:=match a with
 |.int i=>if jO i k=true then some (.dat (.int (i * k)))else none
 |.lst l=>if -(2 ^ 63)<=k/\k<2 ^ 63/\l.length * k.toNat<=lim then some (.new (List.replicate k.toNat l).flatten)else none
 |_=>none
def qR(op:Operator)(a b:D):Option R:=match op with
 |.Add=>G3 a b
 |.Sub=>kH (λi j=>some (.dat (.int (i - j)))) a b
 |.Mult=>(match b with |.int k=>LW a k |_=>none)
 |.FloorDiv=>kH (λi j=>if 0<j/\j<1073741824 then some (.dat (.int (i / j)))else none) a b
 |.Mod=>kH (λi j=>if 0<j then some (.dat (.int (i % j)))else none) a b
 |.Pow=>kH (λi j=>if 0<=j/\j<=1000/\i.natAbs<2 ^ 64 then some (.dat (.int (i ^ j.toNat)))else none) a b
 |.LShift=>kH (λi j=>if 0<=j/\j<=1000/\i.natAbs<2 ^ 64 then some (.dat (.int (i * 2 ^ j.toNat)))else none) a b
 |_=>none
def Cy:Operator->D->D->Option D
 |.Add,.int i,.int j=>some (.int (i+j))
 |.Sub,.int i,.int j=>some (.int (i - j))
 |.Mult,.int i,.int j=>if jO i j=true then some (.int (i * j))else none
 |_,_,_=>none
def kI(d1 d2:D):Bool:=gF d1&&gF d2&&decide (dep d1<=190)
def iH(d1:D)(l:List D):Bool:=gF d1&&fc l&&decide (deps l<=190)
def ltF(a b:D):Option Bool:=match a with
 |.int i=>(match b with |.int j=>some (decide (i<j)) |_=>none)
 |.tup l=>(match b with |.tup m=>(match aP l with |some ns=>(match aP m with |some ms=>some (HT.lexLt ns ms) |none=>none) |none=>none) |_=>none)
 |_=>none
noncomputable def ZF(a b:D):Option Bool:=match b with
 |.bl c=>some (OD a c)
 |.non=>some (KC a)
 |_=>none
def eU(op:CmpOp)(d1 d2:D):Option Bool:=match op with
 |.Eq=>if kI d1 d2=true then some (cD d1 d2)else none
 |.NotEq=>if kI d1 d2=true then some (!cD d1 d2)else none
 |.Lt=>ltF d1 d2
 |.LtE=>kH (λi j=>some (decide (i<=j))) d1 d2
 |.Gt=>kH (λi j=>some (decide (i > j))) d1 d2
 |.GtE=>kH (λi j=>some (decide (i ≥ j))) d1 d2
 |.In=>(match bF d2 with |some l=>if iH d1 l=true then some (l.any λd=>cD d d1)else none |none=>none)
 |.NotIn=>(match bF d2 with |some l=>if iH d1 l=true then some (!l.any λd=>cD d d1)else none |none=>none)
 |.Is=>ZF d1 d2
 |.IsNot=>(match ZF d1 d2 with |some c=>some (!c) |none=>none)
def n6:D->D->Option D
 |.lst l,.int i=>fB l i
 |.fix l,.int i=>fB l i
 |.tup l,.int i=>fB l i
 |.vg ks ds,.tup l=>(match aP l with |some n=>Ph ks ds n |none=>none)
 |_,_=>none
def DR(b:Bl)(d:D):Option R:=match b with
 |.len=>(match Xo d with |some n=>some (.dat (.int n)) |none=>none)
 |.list=>(match bF d with |some l=>some (.new l) |none=>none)
 |.tuple=>(match bF d with |some l=>some (.dat (.tup l)) |none=>none)
 |.min=>(match bF d with |some l=>(match aP l with |some (n::ns)=>some (.dat (.int (jL n ns))) |_=>(match dP l with |some (n::ns)=>some (.dat (.tup ((nO n ns).map .int))) |_=>(match jz l with |some (k::ks)=>some (.dat (vZ (kG tW k ks))) |_=>none))) |none=>none)
 |.all=>(match d with |.lst l=>(match qN l with |some bs=>some (.dat (.bl (bs.all id))) |none=>none) |_=>none)
 |.any=>(match d with |.lst l=>(match qN l with |some bs=>some (.dat (.bl (bs.any id))) |none=>none) |_=>none)
 |.sorted=>(match bF d with |some l=>(match aP l with |some ns=>if ns.length<64 then some (.new ((bw ns).map .int))else none |none=>match dP l with |some dG=>if dG.length<64 then some (.new ((bV cT dG).map λns=>.tup (ns.map .int)))else none |none=>(match jz l with |some ks=>if ks.length<64 then some (.new ((bV tW ks).map vZ))else none |none=>none)) |none=>none)
 |.sum=>(match bF d with |some l=>(match aP l with |some ns=>some (.dat (.int ns.sum)) |none=>none) |none=>none)
 |_=>none
def bl2(b:Bl)(d e:D):Option R:=match b with
 |.max=>kH (λi j=>some (.dat (.int (if j > i then j else i)))) d e
 |.min=>kH (λi j=>some (.dat (.int (if j<i then j else i)))) d e
 |_=>none
def jd(b:Bl)(ds:List D):Option R:=match ds with
 | [d]=>DR b d
 | [d,e]=>bl2 b d e
 |_=>none
def X4:Mt->D->D->Option D
 |.count,d0,d1=>match bF d0 with |some l=>if iH d1 l=true then some (.int (l.countP λd=>cD d d1:Nat))else none |none=>none
 |.index,_,_=>none
noncomputable def ug(t n:String):Bool:=t==n||(t == "bool" && n == "int")
structure Rn where
 e:List Nat->Nat->Ex->G->Option (R×G)
 t:List Nat->Nat->Ex->G->Option (Bool×G)
 b:List Nat->Nat->List Sm->G->Option (Fl×G)
 x:List Nat->Nat->Ex->G->Option (Nat×G)
 xt:List Nat->Nat->Ex->G->Option (Nat×G)
 xb:List Nat->Nat->List Sm->G->Option (Nat×G)
noncomputable def toD(bor:List Nat):R->G->Option (D×G)
 |.dat d,g=>some (d,g)
 |.new l,g=>some (.lst l,g)
 |.var i,g=>if i∈bor then none else match g[i]? with |some (.own l)=>some (.lst l,g.set i (.dat (.lst l))) |_=>none
noncomputable def norm:R->R
 |.new l=>.dat (.lst l)
 |.dat d=>.dat d
 |.var i=>.var i
section
variable(rn:Rn)(bor:List Nat)(k:Nat)
noncomputable def eV(e:Ex)(g:G):Option (D×G):=match rn.e bor k e g with
 |some (r,g1)=>toD bor r g1
 |none=>none
noncomputable def nk:List Ex->G->Option (List D×G)
 | [],g=>some ([],g)
 |e::es,g=>match eV rn bor k e g with
  |some (d,g1)=>match nk es g1 with
   |some (ds,g2)=>some (d::ds,g2)
   |none=>none
  |none=>none
def argsR:List Ex->G->Option (List R×G)
 | [],g=>some ([],g)
 |e::es,g=>match rn.e bor k e g with
  |some (r,g1)=>match argsR es g1 with
   |some (rs,g2)=>some (norm r::rs,g2)
   |none=>none
  |none=>none
def DS:D->List CmpOp->List Ex->G->Option (Bool×G)
 |d1,[op],[b],g=>match eV rn bor k b g with
  |some (d2,g1)=>match eU op d1 d2 with |some c=>some (c,g1) |none=>none
  |none=>none
 |d1,op::op'::ops,b::b'::bs,g=>match eV rn bor k b g with
  |some (d2,g1)=>match eU op d1 d2 with
   |some true=>DS d2 (op'::ops) (b'::bs) g1
   |some false=>some (false,g1)
   |none=>none
  |none=>none
 |_,_,_,_=>none
noncomputable def G4:List Ex->G->Option (R×G)
 | [],_=>none
 | [a],g=>rn.e bor k a g
 |a::b::l,g=>match rn.e bor k a g with
  |some (.dat (.bl true),g1)=>G4 (b::l) g1
  |some (.dat (.bl false),g1)=>some (.dat (.bl false),g1)
  |_=>none
noncomputable def X5:List Ex->G->Option (R×G)
 | [],_=>none
 | [a],g=>rn.e bor k a g
 |a::b::l,g=>match rn.e bor k a g with
  |some (.dat (.bl false),g1)=>X5 (b::l) g1
  |some (.dat (.bl true),g1)=>some (.dat (.bl true),g1)
  |_=>none
noncomputable def v5:List Ex->G->Option (Bool×G)
 | [],_=>none
 | [a],g=>rn.t bor k a g
 |a::b::l,g=>match rn.t bor k a g with
  |some (true,g1)=>v5 (b::l) g1
  |some (false,g1)=>some (false,g1)
  |none=>none
noncomputable def G5:List Ex->G->Option (Bool×G)
 | [],_=>none
 | [a],g=>rn.t bor k a g
 |a::b::l,g=>match rn.t bor k a g with
  |some (false,g1)=>G5 (b::l) g1
  |some (true,g1)=>some (true,g1)
  |none=>none
noncomputable def zQ:Option Ex->G->Option (Option Int×G)
 |none,g=>some (none,g)
 |some e,g=>match eV rn bor k e g with
  |some (.int i,g1)=>some (some i,g1)
  |_=>none
noncomputable def Cz(j:Int):Bool:=decide (-(2 ^ 62)<=j)&&decide (j<2 ^ 62)
def v7(j:Int):Bool:=decide (-(2 ^ 30)<=j)&&decide (j<2 ^ 30)
def dg(tp:Bool)(it:Ex)(g:G):Option (List D×G):=match it with
 |.cM a=>match eV rn bor k a g with
  |some (.int j,g1)=>if Cz j=true then some (bU 0 j.toNat,g1)else none
  |_=>none
 |.cO a b=>match eV rn bor k a g with
  |some (.int c,g1)=>match eV rn bor k b g1 with
   |some (.int j,g2)=>if Cz c=true/\Cz j=true then some (bU c (j - c).toNat,g2)else none
   |_=>none
  |_=>none
 |.nP a b c=>match eV rn bor k a g with
  |some (.int i,g1)=>match eV rn bor k b g1 with
   |some (.int j,g2)=>match eV rn bor k c g2 with
    |some (.int s,g3)=>if v7 i=true/\v7 j=true/\v7 s=true/\0<s then some (qP i s (lW i j s),g3)else none
    |_=>none
   |_=>none
  |_=>none
 |.enum a=>if tp=true then match eV rn bor k a g with
  |some (d,g1)=>match bF d with |some l=>some (nh l,g1) |none=>none
  |none=>none
  else none
 |e=>match eV rn bor k e g with
  |some (.tup l,g1)=>some (l,g1)
  |some (.lst l,g1)=>some (l,g1)
  |some (.fix l,g1)=>some (l,g1)
  |_=>none
noncomputable def pM:Option Ex->G->Option (Bool×G)
 |none,g=>some (true,g)
 |some c,g=>rn.t bor k c g
def yC(T:Tg)(last:Nat)(c:Option Ex)(e:Ex):List D->G->Option G
 | [],g=>some g
 |d::l,g=>match T.set d g with
  |none=>none
  |some g1=>match pM rn bor k c g1 with
   |none=>none
   |some (false,g2)=>yC T last c e l g2
   |some (true,g2)=>match eV rn bor k e g2 with
    |none=>none
    |some (x,g3)=>match g3[last]? with
     |some (.own acc)=>if acc.length<lim then yC T last c e l (g3.set last (.own (acc++[x])))else none
     |_=>none
def fM(n kk:Nat)(T:Tg)(it:Ex)(c:Option Ex)(e:Ex)(g:G):Option (List D×G):=match dg rn bor k T.fL it g with
 |none=>none
 |some (ao,g1)=>if g1.length=n/\(T.ix.any λi=>decide (i∈bor))=false then match yC rn bor k T (n+kk) c e ao (gC kk g1)with
   |none=>none
   |some gE=>match gE[n+kk]? with
    |some (.own acc)=>some (acc,gE.take n)
    |_=>none
  else none
def S2(T:Tg)(ks:List Ex)(v:Ex):List D->List (List Int)->List D->G->Option ((List (List Int)×List D)×G)
 | [],ka,da,g=>some ((ka,da),g)
 |d::l,ka,da,g=>match T.set d g with
  |none=>none
  |some g1=>match nk rn bor k ks g1 with
   |none=>none
   |some (m,g2)=>match aP m with
    |none=>none
    |some ns=>match eV rn bor k v g2 with
     |none=>none
     |some (x,g3)=>if ((ka.all λk=>!decide (k=ns))&&(jM g3&&iE x))=true/\ka.length<lim/\m.length<=lim then S2 T ks v l (ka++[ns]) (da++[x]) g3 else none
def pN(n kk:Nat)(T:Tg)(it:Ex)(ks:List Ex)(v:Ex)(g:G):Option ((List (List Int)×List D)×G):=match dg rn bor k T.fL it g with
 |none=>none
 |some (ao,g1)=>if g1.length=n/\(T.ix.any λi=>decide (i∈bor))=false then match S2 rn bor k T ks v ao [] [] (gD kk g1)with
   |none=>none
   |some (p,gE)=>some (p,gE.take n)
  else none
def v8(T1:Tg)(c1:Option Ex)(T:Tg)(it:Ex)(c:Option Ex)(e:Ex)(last:Nat):List D->G->Option G
 | [],g=>some g
 |d::l,g=>match T1.set d g with
  |none=>none
  |some g1=>match pM rn bor k c1 g1 with
   |none=>none
   |some (false,g2)=>v8 T1 c1 T it c e last l g2
   |some (true,g2)=>match dg rn bor k T.fL it g2 with
    |none=>none
    |some (ao,g3)=>match yC rn bor k T last c e ao g3 with
     |none=>none
     |some g4=>v8 T1 c1 T it c e last l g4
def jP(n kk:Nat)(T1:Tg)(j3:Ex)(c1:Option Ex)(T:Tg)(it:Ex)(c:Option Ex)(e:Ex)(g:G):Option (List D×G):=match dg rn bor k T1.fL j3 g with
 |none=>none
 |some (ao,g1)=>if g1.length=n/\((T1.ix++T.ix).any λi=>decide (i∈bor))=false then match v8 rn bor k T1 c1 T it c e (n+kk) ao (gC kk g1)with
   |none=>none
   |some gE=>match gE[n+kk]? with
    |some (.own acc)=>some (acc,gE.take n)
    |_=>none
  else none
def bO(fx:Fx)(k':Nat)(rs:List R)(g1:G):Option (R×G):=
 if rs.length=fx.np/\((vars 0 rs).map (·.2)).Nodup then match eG rs g1 with
  |none=>none
  |some gs=>match rn.b ((vars 0 rs).map (·.1)) k' fx.body (fZ fx.n gs)with
   |some (.rt r,gc)=>match back (vars 0 rs) gc g1 with
    |some gO=>match gR ((vars 0 rs).map (·.1)) gc r with |some r'=>some (r',gO) |none=>none
    |none=>none
   |some (.nx,gc)=>match back (vars 0 rs) gc g1 with
    |some gO=>some (.dat .non,gO)
    |none=>none
   |_=>none
 else none
def bx(fns:List Fx)(e:Ex)(g:G):Option (R×G):=match e with
 |.val d=>some (.dat d,g)
 |.slot i=>match g[i]? with |some (.dat d)=>some (.dat d,g) |some (.own _)=>some (.var i,g) |_=>none
 |.bin op a b=>match argsR rn bor k [a,b] g with
  |some ([r1,r2],g2)=>match pk r1 g2,pk r2 g2 with
   |some d1,some d2=>match qR op d1 d2 with |some r=>some (r,g2) |none=>none
   |_,_=>none
  |_=>none
 |.cmp op a b=>match argsR rn bor k [a,b] g with
  |some ([r1,r2],g2)=>match pk r1 g2,pk r2 g2 with
   |some d1,some d2=>match eU op d1 d2 with |some c=>some (.dat (.bl c),g2) |none=>none
   |_,_=>none
  |_=>none
 |.chain a ops l=>match eV rn bor k a g with
  |some (d1,g1)=>match DS rn bor k d1 ops l g1 with |some (c,g2)=>some (.dat (.bl c),g2) |none=>none
  |none=>none
 |.neg a=>match eV rn bor k a g with |some (.int i,g1)=>some (.dat (.int (-i)),g1) |_=>none
 |.not a=>match rn.e bor k a g with |some (.dat (.bl c),g1)=>some (.dat (.bl (!c)),g1) |_=>none
 |.and l=>G4 rn bor k l g
 |.or l=>X5 rn bor k l g
 |.ite c a b=>match rn.t bor k c g with
  |some (true,g1)=>rn.e bor k a g1
  |some (false,g1)=>rn.e bor k b g1
  |none=>none
 |.tup l=>match nk rn bor k l g with |some (ds,g1)=>if ds.length<=lim then some (.dat (.tup ds),g1)else none |none=>none
 |.lst l=>match nk rn bor k l g with |some (ds,g1)=>if ds.length<=lim then some (.new ds,g1)else none |none=>none
 |.ix a b=>match argsR rn bor k [a,b] g with
  |some ([r1,r2],g2)=>match pk r1 g2,pk r2 g2 with
   |some d1,some d2=>match n6 d1 d2 with |some d=>some (.dat d,g2) |none=>none
   |_,_=>none
  |_=>none
 |.slice a lo hi=>match rn.e bor k a g with
  |some (r,g1)=>match zQ rn bor k lo g1 with
   |some (i,g2)=>match zQ rn bor k hi g2 with
    |some (j,g3)=>match norm r with
     |.dat (.tup l)=>some (.dat (.tup (lO l i j)),g3)
     |.dat (.fix l)=>some (.new (lO l i j),g3)
     |r'=>match pk r' g3 with |some (.lst l)=>some (.new (lO l i j),g3) |_=>none
    |none=>none
   |none=>none
  |none=>none
 |.call f l=>match fns[f]?,k with
  |some fx,k'+1=>match argsR rn bor k l g with
   |some (rs,g1)=>bO rn fx k' rs g1
   |none=>none
  |_,_=>none
 |.blt b l=>match argsR rn bor k l g with
  |some (rs,g1)=>match qM rs g1 with
   |some ds=>match jd b ds with |some r=>some (r,g1) |none=>none
   |none=>none
  |none=>none
 |.pL a n=>match rn.e bor k a g with
  |some (r,g1)=>match pk (norm r) g1 with |some d=>some (.dat (.bl (ug (xx d) n)),g1) |none=>none
  |none=>none
 |.comp n kk T it c e=>match fM rn bor k n kk T it c e g with |some (acc,g1)=>some (.new acc,g1) |none=>none
 |.iF n kk T it ks v=>match pN rn bor k n kk T it ks v g with |some (p,g1)=>some (.dat (.vg p.1 p.2),g1) |none=>none
 |.bN n kk T1 j3 c1 T it c e=>match jP rn bor k n kk T1 j3 c1 T it c e g with |some (acc,g1)=>some (.new acc,g1) |none=>none
 |.append i e=>match g[i]? with
  |some (.own _)=>match eV rn bor k e g with
   |some (d,g1)=>match g1[i]? with |some (.own l)=>if l.length<lim then some (.dat .non,g1.set i (.own (l++[d])))else none |_=>none
   |none=>none
  |_=>none
 |.extend i e=>match g[i]? with
  |some (.own _)=>match eV rn bor k e g with
   |some (.lst m,g1)=>match g1[i]? with |some (.own l)=>if l.length+m.length<=lim then some (.dat .non,g1.set i (.own (l++m)))else none |_=>none
   |_=>none
  |_=>none
 |.gZ i e=>match g[i]? with
  |some (.own _)=>match eV rn bor k e g with
   |some (.int j,g1)=>match g1[i]? with
    |some (.own l)=>match nR l.length j with
     |some n=>match l[n]? with |some d=>if l.length<lim then some (.dat d,g1.set i (.own (l.eraseIdx n)))else none |none=>none
     |none=>none
    |_=>none
   |_=>none
  |_=>none
 |.cM _=>none
 |.cO _ _=>none
 |.nP _ _ _=>none
 |.enum _=>none
 |.iG a=>match rn.e bor k a g with
  |some (r,g1)=>match pk (norm r) g1 with
   |some d=>match bF d with
    |some l=>match aP l with
     |some ns=>if ns.length<64 then some (.new ((bw ns).reverse.map .int),g1)else none
     |none=>none
    |none=>none
   |none=>none
  |none=>none
 |.meth m o e=>match rn.e bor k o g with
  |some (r0,g1)=>match pk (norm r0) g1 with
   |some d=>match bF d with
    |some _=>match rn.e bor k e g1 with
     |some (r1,g2)=>match pk (norm r0) g2,pk (norm r1) g2 with
      |some d0,some d1=>match X4 m d0 d1 with |some x=>some (.dat x,g2) |none=>none
      |_,_=>none
     |none=>none
    |none=>none
   |none=>none
  |none=>none
 |.cU a=>match eV rn bor k a g with
  |some (.int j,g1)=>if Cz j=true/\j.toNat<=lim then some (.new (bU 0 j.toNat),g1)else none
  |_=>none
 |.fU a b=>match eV rn bor k a g with
  |some (.int c,g1)=>match eV rn bor k b g1 with
   |some (.int j,g2)=>if Cz c=true/\Cz j=true/\(j - c).toNat<=lim then some (.new (bU c (j - c).toNat),g2)else none
   |_=>none
  |_=>none
def stepT(e:Ex)(g:G):Option (Bool×G):=match e with
 |.cmp op a b=>match argsR rn bor k [a,b] g with
  |some ([r1,r2],g2)=>match pk r1 g2,pk r2 g2 with
   |some d1,some d2=>match eU op d1 d2 with |some c=>some (c,g2) |none=>none
   |_,_=>none
  |_=>none
 |.chain a ops l=>match eV rn bor k a g with
  |some (d1,g1)=>DS rn bor k d1 ops l g1
  |none=>none
 |.not a=>match rn.t bor k a g with |some (c,g1)=>some (!c,g1) |none=>none
 |.and l=>v5 rn bor k l g
 |.or l=>G5 rn bor k l g
 |.ite _ _ _=>none
 |e=>match rn.e bor k e g with
  |some (r,g1)=>match pk (norm r) g1 with
   |some d=>match Ld d with |some c=>some (c,g1) |none=>none
   |none=>none
  |none=>none
def eK(T:Tg)(b:G->Option (Fl×G)):List D->G->Option (Fl×G)
 | [],g=>some (.nx,g)
 |d::l,g=>match T.set d g with
  |none=>none
  |some g0=>match b g0 with
   |none=>none
   |some (.nx,g1)=>eK T b l g1
   |some (.ct,g1)=>eK T b l g1
   |some (.bk,g1)=>some (.nx,g1)
   |some (.rt r,g1)=>some (.rt r,g1)
noncomputable def DT(c:G->Option (Bool×G))(b:G->Option (Fl×G)):Nat->G->Option (Fl×G)
 | 0,_=>none
 |n+1,g=>match c g with
  |none=>none
  |some (false,g1)=>some (.nx,g1)
  |some (true,g1)=>match b g1 with
   |none=>none
   |some (.nx,g2)=>DT c b n g2
   |some (.ct,g2)=>DT c b n g2
   |some (.bk,g2)=>some (.nx,g2)
   |some (.rt r,g2)=>some (.rt r,g2)
def aR(st:Sm)(g:G):Option (Fl×G):=match st with
 |.ret e=>match rn.e bor k e g with |some (r,g1)=>some (.rt r,g1) |none=>none
 |.expr e=>match rn.e bor k e g with |some (_,g1)=>some (.nx,g1) |none=>none
 |.set i e=>if i∈bor then none else match rn.e bor k e g with
  |some (.new l,g1)=>if i<g1.length then some (.nx,g1.set i (.own l))else none
  |some (r,g1)=>match toD bor r g1 with |some (d,g2)=>some (.nx,g2.set i (.dat d)) |none=>none
  |none=>none
 |.setC i e=>if i∈bor then none else match e with
  |.comp n kk T it c e=>match fM rn bor k n kk T it c e g with
   |some (acc,g1)=>if i<g1.length then some (.nx,g1.set i (.own acc))else none
   |none=>none
  |.bN n kk T1 j3 c1 T it c e=>match jP rn bor k n kk T1 j3 c1 T it c e g with
   |some (acc,g1)=>if i<g1.length then some (.nx,g1.set i (.own acc))else none
   |none=>none
  |_=>none
 |.tgt T e=>if T.ix.any (λi=>decide (i∈bor))=true then none else match eV rn bor k e g with
  |some (d,g1)=>match T.set d g1 with |some g2=>some (.nx,g2) |none=>none
  |none=>none
 |.item i j e=>match eV rn bor k e g with
  |some (d,g1)=>match g1[i]? with
   |some (.own _)=>match eV rn bor k j g1 with
    |some (.int n,g2)=>match g2[i]? with
     |some (.own l)=>match nR l.length n with |some m=>some (.nx,g2.set i (.own (l.set m d))) |none=>none
     |_=>none
    |_=>none
   |_=>none
  |none=>none
 |.aug i op e=>if i∈bor then none else match g[i]? with
  |some (.dat d1)=>match eV rn bor k e g with
   |some (d2,g1)=>match Cy op d1 d2 with |some d=>some (.nx,g1.set i (.dat d)) |none=>none
   |none=>none
  |some (.own _)=>if op=.Add then match eV rn bor k e g with
    |some (.lst m,g1)=>match g1[i]? with |some (.own l)=>if l.length+m.length<=lim then some (.nx,g1.set i (.own (l++m)))else none |_=>none
    |_=>none
   else none
  |_=>none
 |.items2 i x j y e=>match eV rn bor k e g with
  |some (.tup [d1,d2],g1)=>match g1[i]? with
   |some (.own _)=>match eV rn bor k x g1 with
    |some (.int n1,g2)=>match g2[i]? with
     |some (.own l)=>match nR l.length n1 with
      |some m1=>match (g2.set i (.own (l.set m1 d1)))[j]? with
       |some (.own _)=>match eV rn bor k y (g2.set i (.own (l.set m1 d1)))with
        |some (.int n2,g3)=>match g3[j]? with
         |some (.own l2)=>match nR l2.length n2 with |some m2=>some (.nx,g3.set j (.own (l2.set m2 d2))) |none=>none
         |_=>none
        |_=>none
       |_=>none
      |none=>none
     |_=>none
    |_=>none
   |_=>none
  |_=>none
 |.ite c a b=>match rn.t bor k c g with
  |some (true,g1)=>rn.b bor k a g1
  |some (false,g1)=>rn.b bor k b g1
  |none=>none
 |.loop T it b=>if T.ix.any (λi=>decide (i∈bor))=true then none else match dg rn bor k T.fL it g with
  |some (ao,g1)=>eK T (rn.b bor k b) ao g1
  |none=>none
 |.while c b=>DT (rn.t bor k c) (rn.b bor k b) 100000 g
 |.rows im it iy ia ib=>match g[im]?,g[it]? with
  |some (.dat (.int m)),some (.dat (.tup aj))=>match g[iy]?,g[ia]?,g[ib]? with
   |some .no,some .no,some .no=>if 0<=m/\m<=1000 then match iD aj (List.replicate m.toNat [])with |some ll=>some (.rt (.dat (.lst (ll.map .lst))),g) |none=>none else none
   |_,_,_=>none
  |_,_=>none
 |.stuck=>none
def g6:List Sm->G->Option (Fl×G)
 | [],g=>some (.nx,g)
 |st::rest,g=>match aR rn bor k st g with
  |some (.nx,g1)=>g6 rest g1
  |some (f,g1)=>some (f,g1)
  |none=>none
end
noncomputable def xArgs(rn:Rn)(bor:List Nat)(k:Nat)(l:List Ex)(g:G):Option (Nat×G):=none
noncomputable def G6(rn:Rn)(bor:List Nat)(k:Nat)(fns:List Fx)(e:Ex)(g:G):Option (Nat×G):=none
def yD(rn:Rn)(bor:List Nat)(k:Nat)(e:Ex)(g:G):Option (Nat×G):=none
noncomputable def S3(rn:Rn)(bor:List Nat)(k:Nat)(st:Sm)(g:G):Option (Nat×G):=none
noncomputable def yE(rn:Rn)(bor:List Nat)(k:Nat)(l:List Sm)(g:G):Option (Nat×G):=none
def step(fns:List Fx)(rn:Rn):Rn:=⟨λbor k e g=>bx rn bor k fns e g,λbor k e g=>stepT rn bor k e g,λbor k l g=>g6 rn bor k l g,λbor k e g=>G6 rn bor k fns e g,λbor k e g=>yD rn bor k e g,λbor k l g=>yE rn bor k l g⟩
noncomputable def rn0:Rn:=⟨λ_ _ _ _=>none,λ_ _ _ _=>none,λ_ _ _ _=>none,λ_ _ _ _=>none,λ_ _ _ _=>none,λ_ _ _ _=>none⟩
def run(fns:List Fx):Nat->Rn
 | 0=>rn0
 |n+1=>step fns (run fns n)
structure Ct where
 N:List Str
 sc:Scope
 df:Bool
 q:Str
structure Fi where
 name:Str
 qual:Str
 st:Stmt
 N:List Str
 ps:List Str
structure Pg where
 fn:List Fi
 ct:List (Str×D)
 bn:List Str
 cls:List Str:=[]
 lam:Bool:=false
 Pj:List Addr:=[]
 kt:Str:=Str.empty
 ups:List (Str×List (Addr×Bool)):=[]
def S4:Str:= "law.<locals>.<lambda>"
def S5(K:Frag)(mg:Str->Option Value)(fW:Value):Prop:=
 ∃c q,fW=.ref c/\(∀b:Heap,K.In b->PySem.W.CodeHd b c q)/\(q,S4)∈fY K/\(∀b:Heap,K.In b->b.BuiltinsAt mg q)/\mainGlobals≠q
structure CG(P:Pg)(K:Frag)(mg:Str->Option Value):Prop where
 fn:∀(i:Nat) (fi:Fi),P.fn[i]?=some fi->∃f fd,mg fi.name=some (.ref f)/\W3 K fi.name fi.qual fi.st f fd/\fS fi.N fi.ps (aZ fi.st)/\L2.Binds K fd fi.ps []/\(fi.name==("__debug__":Str))=false
 ct:∀(x:Str) (d:D),(x,d)∈P.ct->(x==("__debug__":Str))=false/\∃v u,mg x=some u/\RelV v u/\∀M H,Rep K M H d v
 bn:∀x∈P.bn,mg x=none
 cls:∀x∈P.cls,(x==("__debug__":Str))=false/\∃C,mg x=some (.ref C)/\BW K C
 lam:P.lam=true->∀fW,PySem.W.codeIn K fW "law"=true->S5 K mg fW
 Pj:∀(i:Nat) (C:Addr),P.Pj[i]?=some C->∃x,P.cls[i]?=some x/\mg x=some (.ref C)/\BW K C/\Xa K C
 kt:P.lam=true->(P.kt==("__debug__":Str))=false/\∃D,mg P.kt=some (.ref D)/\BW K D/\∀C∈P.Pj,XJ K C D=true
 ups:∀(x:Str) (l:List (Addr×Bool)),(x,l)∈P.ups->(x==("__debug__":Str))=false/\∃cv,((mg x=some cv/\∃D,cv=.ref D)\/(x∈P.bn/\x≠ "__name__" /\bootBuiltins x=some cv/\∃n,cv=.type n))/\PySem.W.kitOne K (.type "NoneType") cv=some false/\∀C b,l.lookup C=some b->PySem.W.kitOne K (.ref C) cv=some b
structure bG(P:Pg)(k:Nat)(X:Cx)(c:Ct):Prop where
 N:X.N=c.N
 nd:c.N.Nodup
 VG:∀x,c.sc.names.lookup x=some .local->X.env.scope.names.lookup x=some .local
 qE:∀x,c.sc.names.lookup x=some .globalImplicit->Gl X x
 fre:∀x,c.sc.names.lookup x=some .cell\/c.sc.names.lookup x=some .free->X.env.scope.names.lookup x=some .cell\/X.env.scope.names.lookup x=some .free
 cel:c.df=true->∀x,c.sc.names.lookup x=some .cell->X.env.scope.names.lookup x=some .cell
 fn:∀x,c.df=true\/c.sc.names.lookup x=some .local->X.fn x=true
 bk:c.df=true->X.env.blockKind=.function
 calm:X.calm=true
 xe:X.xe=λ_ _=>False
 md:CG P X.K X.mg
 room:fX k X.A
 lam:c.q = "law" ->P.lam=true->X.env.qual ++ "<lambda>"=S4/\S5 X.K X.mg X.env.code
noncomputable def jQ(sc:Scope)(x:Str):Bool:=match sc.names.lookup x with |some .local=>true |some .cell=>true |some .free=>true |_=>false
noncomputable def fO(c:Ct)(x:Str):Bool:=match c.sc.names.lookup x with |some .local=>true |some .cell=>c.df |_=>false
noncomputable def bS(x:Str):Bool:=!(x==("__debug__":Str))&&!(x==("__classdict__":Str))
section
theorem bG.vis(h:bG P k X c)(hv:jQ c.sc x=true):mQ X.env.scope x:=by
 unfold jQ at hv;split at hv
 . rename_i e;exact .inl (h.VG x e)
 . rename_i e;exact (h.fre x (.inl e)).elim (λq=>.inr (.inl q)) λq=>.inr (.inr q)
 . rename_i e;exact (h.fre x (.inr e)).elim (λq=>.inr (.inl q)) λq=>.inr (.inr q)
 . cases hv
theorem bG.nm(h:bG P k X c)(hi:c.N[i]?=some x)(hs:fO c x=true):pA X x i:=by
 refine⟨h.N▸h.nd,by rw[h.N];exact hi,?_,.inl (h.fn x ?_)⟩
 .
  unfold fO at hs;split at hs
  . rename_i e;exact .inl (h.VG x e)
  . rename_i e;exact .inr (h.cel hs x e)
  . cases hs
 .
  unfold fO at hs;split at hs
  . rename_i e;exact .inr e
  . exact .inl hs
  . cases hs
theorem cu(h:bS x=true):(x==("__debug__":Str))=false/\(x==("__classdict__":Str))=false:=by unfold bS at h;simp only[c8,AL]at h;exact h
theorem cV{α:Type}{f:Int->Int->Option α}{a b:D}{r:α}(h:kH f a b=some r):∃i j,a=.int i/\b=.int j/\f i j=some r:=by
 unfold kH at h;split at h
 .
  split at h
  . exact⟨_,_,rfl,rfl,h⟩
  . cases h
 . cases h
theorem L0{d1 d2:D}{r:R}(hK:z.K=X.K)(h:G3 d1 d2=some r):jY X z (binaryOp .Add) d1 d2 r:=by
 unfold G3 at h;split at h
 .
  split at h
  . cases h;exact nW Qp
  . cases h
 .
  split at h
  .
   split at h
   . rename_i hc;cases h;exact Rr hc
   . cases h
  . cases h
 .
  split at h
  .
   split at h
   . rename_i hc;cases h;exact KH hK hc
   . cases h
  . cases h
 . cases h
theorem L1{d1:D}{k:Int}{r:R}(hK:z.K=X.K)(h:LW d1 k=some r):jY X z (binaryOp .Mult) d1 (.int k) r:=by
 unfold LW at h;split at h
 .
  split at h
  . rename_i hc;cases h;refine o8 Qs ?_;unfold jO at hc;simp only[n0,c8,b8]at hc;exact hc
  . cases h
 .
  split at h
  . rename_i hc;cases h;exact Rt hc.1 hc.2.1 hc.2.2
  . cases h
 . cases h
theorem S6(hK:z.K=X.K)(h:qR op d1 d2=some r):jY X z (binaryOp op) d1 d2 r:=by
 cases op with
 |Add=>exact L0 hK h
 |Sub=>obtain⟨i,j,rfl,rfl,h'⟩:=cV h;cases h';exact nW Qq
 |Mult=>
  dsimp only[qR]at h;split at h
  . exact L1 hK h
  . cases h
 |FloorDiv=>
  obtain⟨i,j,rfl,rfl,h'⟩:=cV h;split at h'
  . rename_i hc;cases h';exact o8 JT hc
  . cases h'
 |Mod=>
  obtain⟨i,j,rfl,rfl,h'⟩:=cV h;split at h'
  . rename_i hc;cases h';exact o8 Qt hc
  . cases h'
 |Pow=>
  obtain⟨i,j,rfl,rfl,h'⟩:=cV h;split at h'
  . rename_i hc;cases h';exact o8 sS ⟨hc.1,by have:=hc.2.1;lia,hc.2.2⟩
  . cases h'
 |LShift=>
  obtain⟨i,j,rfl,rfl,h'⟩:=cV h;split at h'
  . rename_i hc;cases h';exact SN hc.1 (by have:=hc.2.1;lia) hc.2.2
  . cases h'
 |_=>cases h
theorem L5(h:Cy op d1 d2=some d):jY X z (inplaceOp op) d1 d2 (.dat d):=by
 unfold Cy at h;split at h
 . cases h;exact nW JV
 . cases h;exact nW JW
 .
  split at h
  . rename_i hc;cases h;refine o8 JX ?_;unfold jO at hc;simp only[n0,c8,b8]at hc;exact hc
  . cases h
 . cases h
theorem pO(hK:z.K=X.K)(hr:fX k X.A)(h:eU op d1 d2=some b):jY X z (compareOp op) d1 d2 (.dat (.bl b)):=by
 have hu:=hr.un;cases op with
 |Eq=>
  dsimp only[eU]at h;split at h
  . rename_i hc;cases h;simp only[kI,c8,b8]at hc;exact Xi hK hc.1.1 hc.1.2 (by have:=hc.2;lia)
  . cases h
 |NotEq=>
  dsimp only[eU]at h;split at h
  . rename_i hc;cases h;simp only[kI,c8,b8]at hc;exact Xk hK hc.1.1 hc.1.2 (by have:=hc.2;lia)
  . cases h
 |Lt=>
  dsimp only[eU,ltF]at h;split at h
  .
   split at h
   . cases h;exact tM Ww
   . cases h
  .
   split at h
   .
    split at h
    .
     rename_i h1;split at h
     . rename_i h2;cases h;exact Ry hK ⋯ h1 h2
     . cases h
    . cases h
   . cases h
  . cases h
 |LtE=>obtain⟨i,j,rfl,rfl,h'⟩:=cV h;cases h';exact tM Wx
 |Gt=>obtain⟨i,j,rfl,rfl,h'⟩:=cV h;cases h';exact tM Wy
 |GtE=>obtain⟨i,j,rfl,rfl,h'⟩:=cV h;cases h';exact tM Wz
 |In=>
  dsimp only[eU]at h;split at h
  .
   rename_i hs;split at h
   . rename_i hc;cases h;simp only[iH,c8,b8]at hc;exact Xm hK hs hc.1.1 hc.1.2 (by have:=hc.2;lia)
   . cases h
  . cases h
 |NotIn=>
  dsimp only[eU]at h;split at h
  .
   rename_i hs;split at h
   . rename_i hc;cases h;simp only[iH,c8,b8]at hc;exact Fq hK hs hc.1.1 hc.1.2 (by have:=hc.2;lia)
   . cases h
  . cases h
 |Is=>
  dsimp only[eU,ZF]at h;split at h
  . cases h;exact Xn
  . cases h;exact Rq
  . cases h
 |IsNot=>
  dsimp only[eU]at h;unfold ZF at h;split at h
  .
   rename_i e;split at e
   . cases e;cases h;exact Fv
   . cases e;cases h;exact KD
   . cases e
  . cases h
theorem S7{d1 d2 d:D}(hK:z.K=X.K)(hr:X.A.units+1<cLine)(h:n6 d1 d2=some d):Vo X z d1 d2 (.dat d):=by
 unfold n6 at h;split at h
 . exact Rv hK h
 . exact Rx hK h
 . exact KJ hK h
 .
  split at h
  . rename_i e;exact Sz hK hr e h
  . cases h
 . cases h
noncomputable def X6:Bl->Str×Value
 |.len=>("len",.builtin "len")
 |.list=>("list",.type "list")
 |.tuple=>("tuple",.type "tuple")
 |.max=>("max",.builtin "max")
 |.min=>("min",.builtin "min")
 |.str=>("str",.type "str")
 |.all=>("all",.builtin "all")
 |.any=>("any",.builtin "any")
 |.sorted=>("sorted",.builtin "sorted")
 |.sum=>("sum",.builtin "sum")
theorem S8{b:Bl}{d:D}{r:R}(hK:z.K=X.K)(hc:X.calm=true)(hr:X.A.units+6<cLine)(h:DR b d=some r):CallD X z (X6 b).2 [d] r:=by
 cases b <;> dsimp only[DR]at h
 case len=>
  split at h
  . rename_i e;cases h;exact RB hK e
  . cases h
 case list=>
  split at h
  . rename_i e;cases h;exact KN hK e
  . cases h
 case tuple=>
  split at h
  . rename_i e;cases h;exact Fz hK e
  . cases h
 case min=>
  split at h
  .
   rename_i e1;split at h
   . rename_i e2;cases h;exact Li hc hK e1 e2
   .
    split at h
    . rename_i e3;cases h;exact Lv hc ⋯ hK e1 e3
    .
     split at h
     . rename_i e4;cases h;exact LR hc hr hK e1 e4
     . cases h
  . cases h
 case all=>
  split at h
  .
   split at h
   . rename_i e;cases h;exact RJ hc e
   . cases h
  . cases h
 case any=>
  split at h
  .
   split at h
   . rename_i e;cases h;exact SQ hc e
   . cases h
  . cases h
 case sorted=>
  split at h
  .
   rename_i e1;split at h
   .
    rename_i e2;split at h
    . rename_i e3;cases h;exact BP hK e1 e2 e3
    . cases h
   .
    split at h
    .
     rename_i e2;split at h
     . rename_i e3;cases h;exact yd hK e1 e2 e3
     . cases h
    .
     split at h
     .
      rename_i e2;split at h
      . rename_i e3;cases h;exact yz hr hK e1 e2 e3
      . cases h
     . cases h
  . cases h
 case sum=>
  split at h
  .
   rename_i e1;split at h
   . rename_i e2;cases h;exact Sh hc hK e1 e2
   . cases h
  . cases h
 all_goals cases h
theorem S9{b:Bl}{ds:List D}{r:R}(hK:z.K=X.K)(hc:X.calm=true)(hr:X.A.units+6<cLine)(h:jd b ds=some r):CallD X z (X6 b).2 ds r:=by
 unfold jd at h;split at h
 . exact S8 hK hc hr h
 .
  cases b with
  |max=>obtain⟨i,j,rfl,rfl,h'⟩:=cV h;cases h';exact RC hc
  |min=>obtain⟨i,j,rfl,rfl,h'⟩:=cV h;cases h';exact RD hc
  |_=>cases h
 . cases h
noncomputable def Tc:Mt->Str
 |.count=> "count"
 |.index=> "index"
noncomputable def yF:Mt->D->String
 |.count,d=>O4 d
 |.index,d=>XD d
theorem Td{m:Mt}{d0 d1 x:D}(hK:z.K=X.K)(hr:fX k X.A)(h:X4 m d0 d1=some x):Gr X z (yF m d0) d0 d1 (.dat x):=by
 have hu:=hr.un;unfold X4 at h;split at h
 .
  split at h
  .
   rename_i hs;split at h
   . rename_i hc;cases h;simp only[iH,c8,b8]at hc;exact Gs hK hs hc.1.1 hc.1.2 (by have:=hc.2;lia)
   . cases h
  . cases h
 . cases h
theorem L7(hs:bF d=some l)(he:yF m d0=yF m d):PlainAttrs (xx d)/\PySem.Slot (xx d) (Tc m) (yF m d0)/\typeOf (.builtin (yF m d0))=pure (.type "method_descriptor"):=by
 rw[he];cases d with
 |tup _=>cases m;exact⟨F.plainAttrs_tuple,F.slot_tuple_count,F.type_tuple_count⟩;exact⟨F.plainAttrs_tuple,F.slot_tuple_index,F.type_tuple_index⟩
 |lst _=>cases m;exact⟨BH,BF,F.type_list_count⟩;exact⟨BH,F.slot_list_index,F.type_list_index⟩
 |fix _=>cases m;exact⟨BH,BF,F.type_list_count⟩;exact⟨BH,F.slot_list_index,F.type_list_index⟩
 |_=>cases hs
theorem L8(h1:pk r g1=some d)(h2:pk r g2=some d0):yF m d0=yF m d:=by
 cases r with
 |dat x=>cases h1;cases h2;rfl
 |new _=>cases h1
 |var i=>
  unfold pk at h1 h2;dsimp only at h1 h2;have key:∀{g:G}{d:D},(match g[i]? with |some (.own l)=>some (D.lst l) |some (.dat (.lst l))=>some (.lst l) |_=>none)=some d->∃l,d=.lst l:=λ{g d} h=>by
   split at h
   . cases h;exact⟨_,rfl⟩
   . cases h;exact⟨_,rfl⟩
   . cases h
  obtain⟨l1,rfl⟩:=key h1;obtain⟨l2,rfl⟩:=key h2;cases m <;> rfl
noncomputable def v9:List String:=["int", "bool", "str", "tuple", "list", "dict"]
theorem G7{K:Frag}{M:List Addr}{H:Hp}{v:V}{d:D}(p:Pk K M H d v){n:String}(hn:n∈v9):PySem.W.kitOne K (Zo d) (.type n)=some (ug (xx d) n):=by
 cases d with
 |DN C=>
  cases p with
  |of q=>
   cases q with
   |DN k _ _=>refine (k.kit n hn).trans ?_;unfold v9 at hn;simp only[dS,l8,AB]at hn;rcases hn with rfl |rfl |rfl |rfl |rfl |rfl <;> first |rfl |decide
 |_=>unfold v9 at hn;simp only[dS,l8,AB]at hn;rcases hn with rfl |rfl |rfl |rfl |rfl |rfl <;> first |rfl |decide
end
noncomputable def wc(sc scope:Scope):Bool:=decide (scope.kind=.function)&&scope.names.all λy=>decide (y.2≠.cell)&&(decide (y.2≠.local)||decide (scope.names.lookup y.1=some .local)) &&
 (decide (y.2≠.free)||(decide (scope.names.lookup y.1=some .free)&&(decide (sc.names.lookup y.1=some .cell)||decide (sc.names.lookup y.1=some .free))))
noncomputable def iI(N N':List Str)(scope:Scope)(k:Nat):Bool:=decide (N'.length=N.length+(k+1))&&(match N'[N.length+k]? with |some x=>decide (scope.names.lookup x=none) |none=>true) &&
 (List.range N.length).all λi=>match N'[i]? with |some x=>decide (scope.names.lookup x=none)||(decide (N[i]?=some x)&&decide (scope.names.lookup x≠some .local)) |none=>true
inductive CJ(c:Ct):List Expr->List Nat->Prop
 |nil:CJ c [] []
 |cons {x:Str}{i:Nat}{pos:Pos}{es:List Expr}{is:List Nat}:c.N[i]?=some x->fO c x=true->CJ c es is->CJ c (.Name x pos::es) (i::is)
inductive G8(P:Pg)(c:Ct):List Expr->List String->Prop
 |nil:G8 P c [] []
 |cons {T:Str}{n:String}{pos:Pos}{es:List Expr}{ns:List String}:T∈P.bn->c.sc.names.lookup T=some .globalImplicit->T=Str.ofString n->n∈v9->G8 P c es ns->G8 P c (.Name T pos::es) (n::ns)
inductive xA(c:Ct):Expr->Tg->Prop
 |nm:c.N[i]?=some x->fO c x=true->xA c (.Name x pos) (.nm i)
 |tp {es:List Expr}{is:List Nat}{k:Nat}{pos:Pos}:CJ c es is->xA c (.Tuple es k pos) (.tp is)
noncomputable def DW(c:Ct)(y:Str)(py pos:Pos)(scope:Scope):Bool:=(c.sc.names.lookup y==some .local)&&py.line==pos.line&&!(scope.names.any λ(n,k)=>n==y&&(k==.local||k==.cell))
def nmW(e:Expr):Option Str:=match e with |.Name x _=>some x |_=>none
noncomputable def tpN(n:Nat)(e:Expr):Bool:=match e with |.Tuple vs _ _=>decide (vs.length=n) |_=>false
noncomputable def X7(c:Ct)(a:Expr):Bool:=match nmW a with |some x=>decide (c.sc.names.lookup x=some .cell) |none=>false
def Ma(c:Ct)(es:List Expr)(e:Expr):Bool:=tpN es.length e&&(c.df&&es.any (X7 c))
inductive jt(R:Expr->Ex->Prop):List Expr->List Ex->Prop
 |nil:jt R [] []
 |cons {e:Expr}{es:List Expr}{x:Ex}{xs:List Ex}:R e x->jt R es xs->jt R (e::es) (x::xs)
inductive CK(R:Expr->Ex->Prop):Option Expr->Option Ex->Prop
 |none:CK R Option.none Option.none
 |some {e:Expr}{x:Ex}:R e x->CK R (Option.some e) (Option.some x)
inductive pP(R:Expr->Ex->Prop):List Expr->Option Ex->Prop
 |none:pP R [] Option.none
 |some {e:Expr}{x:Ex}:R e x->pP R [e] (Option.some x)
inductive lX(P:Pg)(R:Expr->Ex->Prop)(c:Ct):Expr->Ex->Prop
 |seq:R e x->lX P R c e x
 |cM:R a xa->("range":Str)∈P.bn->c.sc.names.lookup ("range":Str)=some .globalImplicit->lX P R c (.Call (.Name "range" p) [a] [] pos) (.cM xa)
 |cO:R a xa->R b xb->("range":Str)∈P.bn->c.sc.names.lookup ("range":Str)=some .globalImplicit->lX P R c (.Call (.Name "range" p) [a,b] [] pos) (.cO xa xb)
 |nP:R a xa->R b xb->R s xs->("range":Str)∈P.bn->c.sc.names.lookup ("range":Str)=some .globalImplicit->lX P R c (.Call (.Name "range" p) [a,b,s] [] pos) (.nP xa xb xs)
 |enum:R a xa->("enumerate":Str)∈P.bn->c.sc.names.lookup ("enumerate":Str)=some .globalImplicit->lX P R c (.Call (.Name "enumerate" p) [a] [] pos) (.enum xa)
noncomputable def Mf(e:Expr):Option Str:=match e with |.Name x _=>some x |_=>none
theorem uh{e:Expr}{x:Str}(h:Mf e=some x):∃p,e=.Name x p:=by cases e <;> first | (cases h;exact⟨_,rfl⟩) |cases h
noncomputable def G9{α:Type}(l:List α):Option α:=match l with | [a]=>some a |_=>none
theorem n8{α:Type}{l:List α}{a:α}(h:G9 l=some a):l=[a]:=by
 cases l with
 |nil=>cases h
 |cons b l=>cases l with
  |nil=>cases h;rfl
  |cons _ _=>cases h
noncomputable def X8(s:Stmt):Option (List Expr×Expr):=match s with |.Assign ts e _=>some (ts,e) |_=>none
theorem Mg{s:Stmt}{r:List Expr×Expr}(h:X8 s=some r):∃p,s=.Assign r.1 r.2 p:=by cases s <;> first | (cases h;exact⟨_,rfl⟩) |cases h
noncomputable def Yb(e:Expr):Option Const:=match e with |.Constant c _ _=>some c |_=>none
theorem Mh(h:Yb e=some c):∃j p,e=.Constant c j p:=by cases e <;> first | (cases h;exact⟨_,_,rfl⟩) |cases h
noncomputable def Yc(c:Const):Option Unit:=match c with |.none=>some () |_=>none
theorem Mi(h:Yc c=some ()):c=.none:=by cases c <;> first |rfl |cases h
noncomputable def Yd(s:Stmt):Option Expr:=match s with |.Expr e _=>some e |_=>none
theorem Mj{s:Stmt}{e:Expr}(h:Yd s=some e):∃p,s=.Expr e p:=by cases s <;> first | (cases h;exact⟨_,rfl⟩) |cases h
noncomputable def Ye(e:Expr):Option (Expr×List Expr×List Keyword):=match e with |.Call f as ks _=>some (f,as,ks) |_=>none
theorem Mk{e:Expr}{r:Expr×List Expr×List Keyword}(h:Ye e=some r):∃p,e=.Call r.1 r.2.1 r.2.2 p:=by cases e <;> first | (cases h;exact⟨_,rfl⟩) |cases h
noncomputable def Yg(s:Stmt):Option (List Stmt×List ExceptHandler×List Stmt×List Stmt):=match s with |.Try b h o f _=>some (b,h,o,f) |_=>none
theorem Ml{s:Stmt}{r:List Stmt×List ExceptHandler×List Stmt×List Stmt}(h:Yg s=some r):∃p,s=.Try r.1 r.2.1 r.2.2.1 r.2.2.2 p:=by cases s <;> first | (cases h;exact⟨_,rfl⟩) |cases h
noncomputable def Hf{α:Type}(l:List α):Option Unit:=match l with | []=>some () |_=>none
theorem n9{α:Type}{l:List α}(h:Hf l=some ()):l=[]:=by cases l with |nil=>rfl |cons _ _=>cases h
noncomputable def Yh(h:ExceptHandler):Option (Expr×Str×List Stmt):=match h with |.ExceptHandler t n b _=>t.bind λt=>n.bind λn=>some (t,n,b)
theorem Mm{h:ExceptHandler}{r:Expr×Str×List Stmt}(e:Yh h=some r):∃p,h=.ExceptHandler (some r.1) (some r.2.1) r.2.2 p:=by
 obtain⟨t,n,b,p⟩:=h;cases t with
 |none=>cases e
 |some t=>cases n with
  |none=>cases e
  |some n=>cases e;exact⟨p,rfl⟩
def zR(s:Stmt):Option (Str×Expr):=(X8 s).bind λr=>(G9 r.1).bind λt=>(Mf t).bind λx=>some (x,r.2)
theorem wg{s:Stmt}{r:Str×Expr}(h:zR s=some r):∃p q,s=.Assign [.Name r.1 p] r.2 q:=by unfold zR at h;simp only[eM]at h;obtain⟨⟨ts,e⟩,h1,t,h2,x,h3,h4⟩:=h;cases h4;obtain⟨p,rfl⟩:=Mg h1;obtain⟨q,rfl⟩:=uh h3;have:=n8 h2;dsimp only at this;subst this;exact⟨q,p,rfl⟩
def Te(l:List Stmt):Option Str:=(G9 l).bind λs3=>(Yd s3).bind λce=>(Ye ce).bind λf=>(Hf f.2.1).bind λ_=>(Hf f.2.2).bind λ_=>Mf f.1
theorem ZG{l:List Stmt}{y:Str}(h:Te l=some y):∃py cp ep,l=[.Expr (.Call (.Name y py) [] [] cp) ep]:=by replace h:=eM.1 h;obtain⟨s3,h1,h⟩:=h;cases n8 h1;clear h1;replace h:=eM.1 h;obtain⟨ce,h1,h⟩:=h;obtain⟨p,e1⟩:=Mj h1;cases e1;clear h1;replace h:=eM.1 h;obtain⟨⟨f1,f2,f3⟩,h1,h⟩:=h;obtain⟨q,e1⟩:=Mk h1;cases e1;clear h1;replace h:=eM.1 h;obtain⟨_,h1,h⟩:=h;replace h:=eM.1 h;obtain⟨_,h2,h⟩:=h;obtain⟨r,e1⟩:=uh h;exact⟨r,q,p,by have a:=n9 h1;have b:=n9 h2;dsimp only at a b e1 ⊢;rw[a,b,e1]⟩
def Tf(l:List ExceptHandler):Option (Str×Str×Str×Str):=(G9 l).bind λhh=>(Yh hh).bind λu=>(Mf u.1).bind λke=>(G9 u.2.2).bind λs4=>(zR s4).bind λb=>(Mf b.2).bind λen'=>some (ke,u.2.1,b.1,en')
theorem ZJ{l:List ExceptHandler}{r:Str×Str×Str×Str}(h:Tf l=some r):∃kp erp enp ap hp,l=[.ExceptHandler (some (.Name r.1 kp)) (some r.2.1) [.Assign [.Name r.2.2.1 erp] (.Name r.2.2.2 enp) ap] hp]:=by replace h:=eM.1 h;obtain⟨hh,h1,h⟩:=h;cases n8 h1;clear h1;replace h:=eM.1 h;obtain⟨⟨u1,u2,u3⟩,h1,h⟩:=h;obtain⟨p,e1⟩:=Mm h1;cases e1;clear h1;replace h:=eM.1 h;obtain⟨ke,h1,h⟩:=h;obtain⟨q,e1⟩:=uh h1;cases e1;clear h1;replace h:=eM.1 h;obtain⟨s4,h1,h⟩:=h;cases n8 h1;clear h1;replace h:=eM.1 h;obtain⟨⟨b1,b2⟩,h1,h⟩:=h;obtain⟨m,n,e1⟩:=wg h1;cases e1;clear h1;replace h:=eM.1 h;obtain⟨en,h1,h⟩:=h;obtain⟨o,e1⟩:=uh h1;cases e1;clear h1;cases h;exact⟨q,m,o,n,p,rfl⟩
def nonS(s:Stmt):Option Str:=(zR s).bind λa=>(Yb a.2).bind λc=>(Yc c).bind λ_=>some a.1
theorem ZK(h:nonS s=some x):∃p j np ap,s=.Assign [.Name x p] (.Constant .none j np) ap:=by replace h:=eM.1 h;obtain⟨⟨a1,a2⟩,h1,h⟩:=h;obtain⟨p,q,e1⟩:=wg h1;cases e1;clear h1;replace h:=eM.1 h;obtain⟨c,h1,h⟩:=h;obtain⟨j,m,e1⟩:=Mh h1;cases e1;clear h1;replace h:=eM.1 h;obtain⟨_,h1,h⟩:=h;cases Mi h1;clear h1;cases h;exact⟨p,j,m,q,rfl⟩
def tryS(s:Stmt):Option (Str×Str×Str×Str×Str):=(Yg s).bind λt=>(Hf t.2.2.1).bind λ_=>(Hf t.2.2.2).bind λ_=>(Te t.1).bind λy=>(Tf t.2.1).bind λu=>some (y,u)
theorem ZL{s:Stmt}{r:Str×Str×Str×Str×Str}(h:tryS s=some r):∃l hs p,Te l=some r.1/\Tf hs=some r.2/\s=.Try l hs [] [] p:=by replace h:=eM.1 h;obtain⟨⟨t1,t2,t3,t4⟩,h1,h⟩:=h;obtain⟨p,e1⟩:=Ml h1;cases e1;clear h1;replace h:=eM.1 h;obtain⟨_,h1,h⟩:=h;cases n9 h1;clear h1;replace h:=eM.1 h;obtain⟨_,h1,h⟩:=h;cases n9 h1;clear h1;replace h:=eM.1 h;obtain⟨y,h1,h⟩:=h;replace h:=eM.1 h;obtain⟨u,h2,h⟩:=h;cases h;exact⟨t1,t2,p,h1,h2,rfl⟩
inductive je(P:Pg)(R:Ct->Expr->Ex->Prop)(c:Ct):Expr->Ex->Prop
 |int {i:Int}{j:Nat}{pos:Pos}:je P R c (.Constant (.int i) j pos) (.val (.int i))
 |bool:je P R c (.Constant (.bool i) j pos) (.val (.bl i))
 |none {j:Nat}{pos:Pos}:je P R c (.Constant .none j pos) (.val .non)
 |str:je P R c (.Constant (.str i) j pos) (.val (.str i))
 |var {x:Str}{i:Nat}{pos:Pos}:c.N[i]?=some x->jQ c.sc x=true->bS x=true->je P R c (.Name x pos) (.slot i)
 |glob {x:Str}{d:D}{pos:Pos}:(x,d)∈P.ct->c.sc.names.lookup x=some .globalImplicit->je P R c (.Name x pos) (.val d)
 |bin {a b:Expr}{xa xb:Ex}{op:Operator}{pos:Pos}:R c a xa->R c b xb->je P R c (.BinOp a op b pos) (.bin op xa xb)
 |cmp {a b:Expr}{xa xb:Ex}{op:CmpOp}{pos:Pos}:R c a xa->R c b xb->behindInMarks op b=false->je P R c (.Compare a [op] [b] pos) (.cmp op xa xb)
 |chain {a b1 b2:Expr}{bs:List Expr}{xa x1 x2:Ex}{xs:List Ex}{Lb Lc:CmpOp}{ops:List CmpOp}{pos:Pos}:R c a xa->jt (R c) (b1::b2::bs) (x1::x2::xs)->lastMarks (Lb::Lc::ops) (b1::b2::bs)=false->je P R c (.Compare a (Lb::Lc::ops) (b1::b2::bs) pos) (.chain xa (Lb::Lc::ops) (x1::x2::xs))
 |neg {a:Expr}{xa:Ex}{pos:Pos}:R c a xa->je P R c (.UnaryOp .USub a pos) (.neg xa)
 |not {a:Expr}{xa:Ex}{pos:Pos}:R c a xa->je P R c (.UnaryOp .Not a pos) (.not xa)
 |and {es:List Expr}{xs:List Ex}{pos:Pos}:jt (R c) es xs->je P R c (.BoolOp .And es pos) (.and xs)
 |or {es:List Expr}{xs:List Ex}{pos:Pos}:jt (R c) es xs->je P R c (.BoolOp .Or es pos) (.or xs)
 |ite {t a b:Expr}{xt xa xb:Ex}{pos:Pos}:R c t xt->R c a xa->R c b xb->je P R c (.IfExp t a b pos) (.ite xt xa xb)
 |tup {es:List Expr}{xs:List Ex}{k:Nat}{pos:Pos}:jt (R c) es xs->je P R c (.Tuple es k pos) (.tup xs)
 |lst {es:List Expr}{xs:List Ex}{pos:Pos}:jt (R c) es xs->je P R c (.List es pos) (.lst xs)
 |ix {a b:Expr}{xa xb:Ex}{pos:Pos}:R c a xa->R c b xb->je P R c (.Subscript a b pos) (.ix xa xb)
 |slice {a:Expr}{lo hi:Option Expr}{xa:Ex}{xl xh:Option Ex}{p2 pos:Pos}:R c a xa->CK (R c) lo xl->CK (R c) hi xh->je P R c (.Subscript a (.Slice lo hi Option.none p2) pos) (.slice xa xl xh)
 |call {x:Str}{f:Nat}{fi:Fi}{e:Expr}{es:List Expr}{xs:List Ex}{p pos:Pos}:P.fn[f]?=some fi->fi.name=x->c.sc.names.lookup x=some .globalImplicit->jt (R c) (e::es) xs->je P R c (.Call (.Name x p) (e::es) [] pos) (.call f xs)
 |blt {x:Str}{b:Bl}{e:Expr}{es:List Expr}{xs:List Ex}{p pos:Pos}:(X6 b).1=x->x∈P.bn->c.sc.names.lookup x=some .globalImplicit->jt (R c) (e::es) xs->je P R c (.Call (.Name x p) (e::es) [] pos) (.blt b xs)
 |pL {a:Expr}{xa:Ex}{T:Str}{n:String}{p pT pos:Pos}:R c a xa->("isinstance":Str)∈P.bn->c.sc.names.lookup ("isinstance":Str)=some .globalImplicit->T∈P.bn->c.sc.names.lookup T=some .globalImplicit->T=Str.ofString n->n∈v9->je P R c (.Call (.Name "isinstance" p) [a,.Name T pT] [] pos) (.pL xa n)
 |comp {tg iter cN:Expr}{ifs:List Expr}{scope:Scope}{N':List Str}{k:Nat}{T:Tg}{it xe:Ex}{co:Option Ex}{pos:Pos}:wc c.sc scope=true->iI c.N N' scope k=true->N'.Nodup->xA ⟨N',scope,false,Str.empty⟩ tg T->(∀i∈T.ix,c.N.length<=i/\i<c.N.length+k)->
   lX P (R c) c iter it->pP (R ⟨N',scope,false,Str.empty⟩) ifs co->R ⟨N',scope,false,Str.empty⟩ cN xe->je P R c (.ListComp cN [⟨tg,iter,ifs,0⟩] scope pos) (.comp c.N.length k T it co xe)
 |iF {tg iter vx:Expr}{Pn:List Expr}{scope:Scope}{N':List Str}{k kk:Nat}{T:Tg}{it xv:Ex}{ks:List Ex}{kp pos:Pos}:wc c.sc scope=true->iI c.N N' scope k=true->N'.Nodup->xA ⟨N',scope,false,Str.empty⟩ tg T->(∀i∈T.ix,c.N.length<=i/\i<c.N.length+k)->
   lX P (R c) c iter it->jt (R ⟨N',scope,false,Str.empty⟩) Pn ks->R ⟨N',scope,false,Str.empty⟩ vx xv->je P R c (.DictComp (.Tuple Pn kk kp) vx [⟨tg,iter,[],0⟩] scope pos) (.iF c.N.length k T it ks xv)
 |bN {t1 i1 tg iter cN:Expr}{f1 ifs:List Expr}{scope:Scope}{N':List Str}{k:Nat}{T1 T:Tg}{j3 it xe:Ex}{c1 co:Option Ex}{pos:Pos}:wc c.sc scope=true->iI c.N N' scope k=true->N'.Nodup->xA ⟨N',scope,false,Str.empty⟩ t1 T1->xA ⟨N',scope,false,Str.empty⟩ tg T->(∀i∈T1.ix,c.N.length<=i/\i<c.N.length+k)->(∀i∈T.ix,c.N.length<=i/\i<c.N.length+k)->
   lX P (R c) c i1 j3->pP (R ⟨N',scope,false,Str.empty⟩) f1 c1->lX P (R ⟨N',scope,false,Str.empty⟩) ⟨N',scope,false,Str.empty⟩ iter it->pP (R ⟨N',scope,false,Str.empty⟩) ifs co->R ⟨N',scope,false,Str.empty⟩ cN xe->je P R c (.ListComp cN [⟨t1,i1,f1,0⟩,⟨tg,iter,ifs,0⟩] scope pos) (.bN c.N.length k T1 j3 c1 T it co xe)
 |cU {a:Expr}{xa:Ex}{lp p rp pos:Pos}:R c a xa->("range":Str)∈P.bn->c.sc.names.lookup ("range":Str)=some .globalImplicit->("list":Str)∈P.bn->c.sc.names.lookup ("list":Str)=some .globalImplicit->je P R c (.Call (.Name "list" lp) [.Call (.Name "range" p) [a] [] rp] [] pos) (.cU xa)
 |fU {a b:Expr}{xa xb:Ex}{lp p rp pos:Pos}:R c a xa->R c b xb->("range":Str)∈P.bn->c.sc.names.lookup ("range":Str)=some .globalImplicit->("list":Str)∈P.bn->c.sc.names.lookup ("list":Str)=some .globalImplicit->je P R c (.Call (.Name "list" lp) [.Call (.Name "range" p) [a,b] [] rp] [] pos) (.fU xa xb)
 |iG {a:Expr}{xa:Ex}{j:Nat}{p kp kpos pos:Pos}:R c a xa->("sorted":Str)∈P.bn->c.sc.names.lookup ("sorted":Str)=some .globalImplicit->je P R c (.Call (.Name "sorted" p) [a] [⟨Option.some "reverse",.Constant (.bool true) j kp,kpos⟩] pos) (.iG xa)
 |meth {o e:Expr}{xo xe:Ex}{m:Mt}{name:Str}{eo bQ:Pos}:R c o xo->R c e xe->Tc m=name->(eo.endLine==bQ.line)=true->je P R c (.Call (.Attribute o name eo) [e] [] bQ) (.meth m xo xe)
 |append {x:Str}{i:Nat}{e:Expr}{xe:Ex}{pn eo bQ:Pos}:c.N[i]?=some x->jQ c.sc x=true->bS x=true->R c e xe->(eo.endLine==bQ.line)=true->je P R c (.Call (.Attribute (.Name x pn) "append" eo) [e] [] bQ) (.append i xe)
 |extend {x:Str}{i:Nat}{e:Expr}{xe:Ex}{pn eo bQ:Pos}:c.N[i]?=some x->jQ c.sc x=true->bS x=true->R c e xe->(eo.endLine==bQ.line)=true->je P R c (.Call (.Attribute (.Name x pn) "extend" eo) [e] [] bQ) (.extend i xe)
 |gZ {x:Str}{i:Nat}{e:Expr}{xe:Ex}{pn eo bQ:Pos}:c.N[i]?=some x->jQ c.sc x=true->bS x=true->R c e xe->(eo.endLine==bQ.line)=true->je P R c (.Call (.Attribute (.Name x pn) "pop" eo) [e] [] bQ) (.gZ i xe)
abbrev p0:Pos:=⟨0,0,0,0⟩
inductive Mp(P:Pg)(R:Expr->Ex->Prop)(RS:Stmt->Sm->Prop)(c:Ct):List Stmt->Sm->Prop
 |rows {y x mn a b tn:Str}{im it iy ia ib:Nat}{scope:Scope}{N':List Str}{k j:Nat}{lp px rp mp VB Sx ap py pa pb Dw y1 y2 a1 a2 b1 b2 Vu Vw O8 Pa O9 Jr Vv Vx GP rpos yr tp:Pos}{tk:Nat} :
   (c.N[im]?=some mn/\jQ c.sc mn=true/\bS mn=true)->(c.N[it]?=some tn/\jQ c.sc tn=true/\bS tn=true)->(c.N[iy]?=some y/\DW c y py Sx scope=true/\bS y=true)->
   ((c.N[ia]?=some a/\jQ c.sc a=true/\bS a=true)/\fO c a=true)->((c.N[ib]?=some b/\jQ c.sc b=true/\bS b=true)/\fO c b=true)->(ia≠iy/\ib≠iy/\ia≠ib)->
   (j<k/\wc c.sc scope=true/\iI c.N N' scope k=true/\N'.Nodup/\N'[c.N.length+j]?=some x/\fO ⟨N',scope,false,Str.empty⟩ x=true)->(("range":Str)∈P.bn/\c.sc.names.lookup ("range":Str)=some .globalImplicit)->(O8.endLine==O9.line)=true->(Pa.endLine==Jr.line)=true->
   Mp P R RS c [.Assign [.Name y py] (.ListComp (.List [] lp) [⟨.Name x px,.Call (.Name "range" rp) [.Name mn mp] [] VB,[],0⟩] scope Sx) ap,.For (.Tuple [.Name a pa,.Name b pb] tk Dw) (.Name tn tp) [.Expr (.Call (.Attribute (.Subscript (.Name y y1) (.Name a a1) Vu) "append" O8) [.Name b b1] [] O9) Vv,.Expr (.Call (.Attribute (.Subscript (.Name y y2) (.Name b b2) Vw) "append" Pa) [.Name a a2] [] Jr) Vx] [] GP,.Return (some (.Name y yr)) rpos] (.rows im it iy ia ib)
inductive pQ(RG:List Stmt->Sm->Prop)(RS:Stmt->Sm->Prop):List Stmt->List Sm->Prop
 |nil:pQ RG RS [] []
 |grp {ss rest:List Stmt}{x:Sm}{xs:List Sm}:RG ss x->pQ RG RS rest xs->pQ RG RS (ss++rest) (x::xs)
 |cons {s:Stmt}{ss:List Stmt}{x:Sm}{xs:List Sm}:RS s x->pQ RG RS ss xs->pQ RG RS (s::ss) (x::xs)
noncomputable def kJ(k:Scope->Pos->Bool)(e:Expr):Bool:=match e with |.ListComp _ _ s p=>k s p |.DictComp ..=>true |_=>false
inductive jR(P:Pg)(R:Expr->Ex->Prop)(RS:Stmt->Sm->Prop)(c:Ct):Stmt->Sm->Prop
 |ret {e:Expr}{x:Ex}{pos:Pos}:R e x->jR P R RS c (.Return (some e) pos) (.ret x)
 |expr {e:Expr}{x:Ex}{pos:Pos}:R e x->kJ (λ_ _=>true) e=false->jR P R RS c (.Expr e pos) (.expr x)
 |set {y:Str}{i:Nat}{e:Expr}{x:Ex}{py pos:Pos}:c.N[i]?=some y->fO c y=true->R e x->kJ (λs p=>DW c y py p s) e=false->jR P R RS c (.Assign [.Name y py] e pos) (.set i x)
 |setC {y:Str}{i:Nat}{a:Expr}{b:List Comprehension}{s:Scope}{p:Pos}{n kk:Nat}{T:Tg}{it:Ex}{co:Option Ex}{x:Ex}{py pos:Pos}:c.N[i]?=some y->DW c y py p s=true->R (.ListComp a b s p) (.comp n kk T it co x)->jR P R RS c (.Assign [.Name y py] (.ListComp a b s p) pos) (.setC i (.comp n kk T it co x))
 |Pp {y:Str}{i:Nat}{a:Expr}{b:List Comprehension}{s:Scope}{p:Pos}{n kk:Nat}{T1 T:Tg}{j3 it:Ex}{c1 co:Option Ex}{x:Ex}{py pos:Pos}:c.N[i]?=some y->DW c y py p s=true->R (.ListComp a b s p) (.bN n kk T1 j3 c1 T it co x)->jR P R RS c (.Assign [.Name y py] (.ListComp a b s p) pos) (.setC i (.bN n kk T1 j3 c1 T it co x))
 |tgt {es:List Expr}{k:Nat}{pt pos:Pos}{T:Tg}{e:Expr}{x:Ex}:xA c (.Tuple es k pt) T->R e x->(∀vs k p,e≠.Tuple vs k p)\/Ma c es e=true->kJ (λ_ _=>true) e=false->jR P R RS c (.Assign [.Tuple es k pt] e pos) (.tgt T x)
 |item {y:Str}{i:Nat}{ix e:Expr}{xj x:Ex}{pn cg pos:Pos}:c.N[i]?=some y->jQ c.sc y=true->bS y=true->R ix xj->R e x->kJ (λ_ _=>true) e=false->jR P R RS c (.Assign [.Subscript (.Name y pn) ix cg] e pos) (.item i xj x)
 |aug {y:Str}{i:Nat}{op:Operator}{e:Expr}{x:Ex}{py pos:Pos}:c.N[i]?=some y->fO c y=true->R e x->jR P R RS c (.AugAssign (.Name y py) op e pos) (.aug i op x)
 |items2 {x y:Str}{i j:Nat}{ix iy e:Expr}{xi yi xe:Ex}{pn Gw cg iC pt pos:Pos}{kt:Nat}:c.N[i]?=some x->jQ c.sc x=true->bS x=true->c.N[j]?=some y->jQ c.sc y=true->bS y=true->R ix xi->R iy yi->R e xe->kJ (λ_ _=>true) e=false->jR P R RS c (.Assign [.Tuple [.Subscript (.Name x pn) ix cg,.Subscript (.Name y Gw) iy iC] kt pt] e pos) (.items2 i xi j yi xe)
 |ite {t:Expr}{a b:List Stmt}{xt:Ex}{xa xb:List Sm}{pos:Pos}:R t xt->pQ (Mp P R RS c) RS a xa->pQ (Mp P R RS c) RS b xb->jR P R RS c (.If t a b pos) (.ite xt xa xb)
 |loop {tg iter:Expr}{T:Tg}{it:Ex}{b:List Stmt}{xb:List Sm}{pos:Pos}:xA c tg T->lX P R c iter it->pQ (Mp P R RS c) RS b xb->jR P R RS c (.For tg iter b [] pos) (.loop T it xb)
 |while {t:Expr}{xt:Ex}{b:List Stmt}{xb:List Sm}{pos:Pos}:R t xt->pQ (Mp P R RS c) RS b xb->jR P R RS c (.While t b [] pos) (.while xt xb)
 |stuck {s:Stmt}:jR P R RS c s .stuck
theorem aq{a b:Bool}(h:(a&&b)=true):a=true/\b=true:=by cases a <;> cases b <;> first |exact⟨rfl,rfl⟩ |cases h
theorem dec{p:Prop} [Decidable p] (h:decide p=true):p:=l4 h
theorem um{b:Bool}(h:(!b)=true):b=false:=by cases b <;> first |rfl |cases h
noncomputable def glB(c:Ct)(x:Str):Bool:=decide (c.sc.names.lookup x=some .globalImplicit)
def zS(P:Pg)(c:Ct)(x:Str):Bool:=P.bn.contains x&&glB c x
theorem bq{P:Pg}{c:Ct}{x:Str}(h:zS P c x=true):x∈P.bn/\c.sc.names.lookup x=some .globalImplicit:=⟨BS.mp (aq h).1,dec (aq h).2⟩
noncomputable def nm(c:Ct)(i:Nat):Str:=c.N.getD i Str.empty
def lY(c:Ct)(i:Nat):Bool:=decide (c.N[i]?=some (nm c i))&&(jQ c.sc (nm c i)&&bS (nm c i))
def stB(c:Ct)(i:Nat):Bool:=decide (c.N[i]?=some (nm c i))&&fO c (nm c i)
theorem dX{c:Ct}{i:Nat}(h:lY c i=true):c.N[i]?=some (nm c i)/\jQ c.sc (nm c i)=true/\bS (nm c i)=true:=⟨dec (aq h).1,(aq (aq h).2).1,(aq (aq h).2).2⟩
def bang(x:Str):Str:=⟨x.cps.push 33⟩
def Yi(n:Nat):Str:=⟨(List.replicate n 33).toArray⟩
noncomputable def iJ(scope:Scope):List Str:=scope.names.filterMap λy=>if y.2==.local then some y.1 else none
def pR(N:List Str)(scope:Scope):List Str:=(N.map λy=>if scope.names.lookup y==some .local then bang y else y)++iJ scope++[Yi (N.length+1)]
noncomputable def pS:List Str->Bool
 | []=>true
 |x::l=>!l.contains x&&pS l
theorem gH:∀{l:List Str},pS l=true->l.Nodup
 | [],_=>vS
 |x::l,h=>by
  have h:(!l.contains x&&pS l)=true:=h;refine fN.mpr ⟨λhm=>?_,gH (aq h).2⟩
  have:=(aq h).1;rw[BS.mpr hm]at this;cases this
noncomputable def kids(e:Expr):List Expr:=match e with
 |.BoolOp _ vs _=>vs
 |.BinOp a _ b _=>[a,b]
 |.UnaryOp _ a _=>[a]
 |.Lambda _ b _ _=>[b]
 |.IfExp t a b _=>[t,a,b]
 |.ListComp e gs _ _=>e::gs.flatMap λg=>g.target::g.iter::g.ifs
 |.DictComp e v gs _ _=>e::v::gs.flatMap λg=>g.target::g.iter::g.ifs
 |.Compare a _ bs _=>a::bs
 |.Call f as ks _=>f::(as++ks.map (·.value))
 |.FormattedValue v _ _ _=>[v]
 |.JoinedStr vs _=>vs
 |.Attribute v _ _=>[v]
 |.Subscript a b _=>[a,b]
 |.List es _=>es
 |.Tuple es _ _=>es
 |.Slice a b s p=>[a.getD (.Name Str.empty p),b.getD (.Name Str.empty p),s.getD (.Name Str.empty p)]
 |_=>[]
def kid(e:Expr)(i:Nat):Expr:=(kids e).getD i e
noncomputable def yG(e:Expr):Nat:=match e with |.Constant _ k _=>k |.Tuple _ k _=>k |_=>0
noncomputable def lZ(e:Expr):Scope:=match e with |.Lambda _ _ s _=>s |.ListComp _ _ s _=>s |.DictComp _ _ _ s _=>s |_=>aZ (.Pass e.pos)
noncomputable def kwT(e:Expr):Pos:=match e with |.Call _ _ ks _=>(match ks with |k::_=>k.pos |_=>e.pos) |_=>e.pos
def j4(c:Ct)(t:Expr):Ct:=⟨pR c.N (lZ t),lZ t,false,Str.empty⟩
noncomputable def Mq(P:Pg)(i:Nat):Str:=match P.fn[i]? with |some fi=>fi.name |none=>Str.empty
theorem Mr{P:Pg}{i:Nat}(h:P.fn[i]?.isSome=true):∃fi,P.fn[i]?=some fi/\fi.name=Mq P i:=by
 unfold Mq;cases e:P.fn[i]? with
 |none=>rw[e]at h;cases h
 |some g=>exact⟨g,rfl,rfl⟩
section
variable{R:Expr->Ex->Prop}{s:Ex->Expr->Expr}{f:Ex->Expr->Bool}(hf:∀{x t},f x t=true->R (s x t) x)
include hf
noncomputable def pU(s:Ex->Expr->Expr)(t:Expr):Nat->List Ex->List Expr
 |_,[]=>[]
 |i,x::xs=>s x (kid t i)::pU s t (i+1) xs
noncomputable def Ju(f:Ex->Expr->Bool)(t:Expr):Nat->List Ex->Bool
 |_,[]=>true
 |i,x::xs=>f x (kid t i)&&Ju f t (i+1) xs
theorem iK{i:Nat}{xs:List Ex}(h:Ju f t i xs=true):jt R (pU s t i xs) xs:=by
 induction xs generalizing i with
 |nil=>exact .nil
 |cons x xs ih=>exact .cons (hf (aq h).1) (ih (aq h).2)
noncomputable def Ti(s:Ex->Expr->Expr)(t:Expr)(x:Option Ex):Option Expr:=match x with |some x=>some (s x t) |none=>none
noncomputable def Tj(f:Ex->Expr->Bool)(t:Expr)(x:Option Ex):Bool:=match x with |some x=>f x t |none=>true
theorem Hg{x:Option Ex}(h:Tj f t x=true):CK R (Ti s t x) x:=by
 cases x with
 |none=>exact .none
 |some x=>exact .some (hf h)
noncomputable def Ms(s:Ex->Expr->Expr)(t:Expr)(x:Option Ex):List Expr:=match x with |some x=>[s x t] |none=>[]
theorem yH{x:Option Ex}(h:Tj f t x=true):pP R (Ms s t x) x:=by
 cases x with
 |none=>exact .none
 |some x=>exact .some (hf h)
end
noncomputable def CN(s:Ex->Expr->Expr)(x:Ex)(t:Expr):Expr:=match x with
 |.cM a=>.Call (.Name "range" (kid t 0).pos) [s a (kid t 1)] [] t.pos
 |.cO a b=>.Call (.Name "range" (kid t 0).pos) [s a (kid t 1),s b (kid t 2)] [] t.pos
 |.nP a b d=>.Call (.Name "range" (kid t 0).pos) [s a (kid t 1),s b (kid t 2),s d (kid t 3)] [] t.pos
 |.enum a=>.Call (.Name "enumerate" (kid t 0).pos) [s a (kid t 1)] [] t.pos
 |x=>s x t
def VH(P:Pg)(c:Ct)(f:Ex->Expr->Bool)(x:Ex)(t:Expr):Bool:=match x with
 |.cM a=>zS P c "range" && f a (kid t 1)
 |.cO a b=>zS P c "range" && (f a (kid t 1)&&f b (kid t 2))
 |.nP a b d=>zS P c "range" && (f a (kid t 1)&&(f b (kid t 2)&&f d (kid t 3)))
 |.enum a=>zS P c "enumerate" && f a (kid t 1)
 |x=>f x t
theorem pW{P:Pg}{R:Expr->Ex->Prop}{s:Ex->Expr->Expr}{f:Ex->Expr->Bool}(hf:∀{x t},f x t=true->R (s x t) x){c:Ct}{x:Ex}{t:Expr}(h:VH P c f x t=true):lX P R c (CN s x t) x:=by
 cases x
 case cM a=>exact .cM (hf (aq h).2) (bq (aq h).1).1 (bq (aq h).1).2
 case cO a b=>exact .cO (hf (aq (aq h).2).1) (hf (aq (aq h).2).2) (bq (aq h).1).1 (bq (aq h).1).2
 case nP a b d=>exact .nP (hf (aq (aq h).2).1) (hf (aq (aq (aq h).2).2).1) (hf (aq (aq (aq h).2).2).2) (bq (aq h).1).1 (bq (aq h).1).2
 case enum a=>exact .enum (hf (aq h).2) (bq (aq h).1).1 (bq (aq h).1).2
 all_goals exact .seq (hf h)
noncomputable def Mu(c:Ct)(t:Expr):Nat->List Nat->List Expr
 |_,[]=>[]
 |j,i::is=>.Name (nm c i) (kid t j).pos::Mu c t (j+1) is
def okN(c:Ct):List Nat->Bool
 | []=>true
 |i::is=>stB c i&&okN c is
theorem Tp{c:Ct}{t:Expr}{j:Nat}{is:List Nat}(h:okN c is=true):CJ c (Mu c t j is) is:=by
 induction is generalizing j with
 |nil=>exact .nil
 |cons i is ih=>exact .cons (dec (aq (aq h).1).1) (aq (aq h).1).2 (ih (aq h).2)
def yI(c:Ct)(T:Tg)(t:Expr):Expr:=match T with
 |.nm i=>.Name (nm c i) t.pos
 |.tp is=>.Tuple (Mu c t 0 is) (yG t) t.pos
theorem mh{c:Ct}{T:Tg}{t:Expr}(h:okN c T.ix=true):xA c (yI c T t) T:=by
 cases T with
 |nm i=>exact .nm (dec (aq (aq h).1).1) (aq (aq h).1).2
 |tp is=>exact .tp (Tp h)
noncomputable def Tq(a b:D):Bool:=match a with |.int i=>(match b with |.int j=>decide (i=j) |_=>false) |_=>false
theorem Mv(h:Tq a b=true):a=b:=by
 cases a with
 |int i=>cases b with
  |int j=>exact congrArg D.int (dec (show decide (i=j)=true from h))
  |_=>exact nt h
 |_=>exact nt h
def ZM(y:Str)(d:D):List (Str×D)->Bool
 | []=>false
 |p::l=>(decide (p.1=y)&&Tq p.2 d)||ZM y d l
theorem Tr{y:Str}{d:D}{l:List (Str×D)}(h:ZM y d l=true):(y,d)∈l:=by
 induction l with
 |nil=>cases h
 |cons p l ih=>
  obtain⟨x,d'⟩:=p;have hh:((decide (x=y)&&Tq d' d)||ZM y d l)=true:=h
  rcases n0 _ _▸hh with h |h
  . obtain⟨h1,h2⟩:=aq h;obtain rfl:=dec h1;rw[Mv h2];exact bP
  . exact aS _ (ih h)
noncomputable def cstD(d:D):Const:=match d with |.int i=>.int i |.bl b=>.bool b |.str y=>.str y |_=>.none
noncomputable def cstK(d:D):Bool:=match d with |.int _=>true |.bl _=>true |.str _=>true |.non=>true |_=>false
def Hh(d:D)(t:Expr):Expr:=match Mf t with |some y=>.Name y t.pos |none=>.Constant (cstD d) (yG t) t.pos
def okV(P:Pg)(c:Ct)(d:D)(t:Expr):Bool:=match Mf t with |some y=>glB c y&&ZM y d P.ct |none=>cstK d
theorem Tt{P:Pg}{R:Ct->Expr->Ex->Prop}{c:Ct}{d:D}{t:Expr}(h:okV P c d t=true):je P R c (Hh d t) (.val d):=by
 unfold okV at h;unfold Hh;cases e:Mf t with
 |some y=>rw[e]at h;exact .glob (Tr (aq h).2) (dec (aq h).1)
 |none=>
  rw[e]at h;cases d with
  |int i=>exact .int
  |bl i=>exact .bool
  |str i=>exact .str
  |non=>exact .none
  |_=>exact nt h
def blK(c:Ct)(t:Expr)(k:Nat):Bool:=wc c.sc (lZ t)&&(iI c.N (pR c.N (lZ t)) (lZ t) k&&pS (pR c.N (lZ t)))
def Yj(c:Ct)(k:Nat)(T:Tg):Bool:=T.ix.all λi=>decide (c.N.length<=i/\i<c.N.length+k)
theorem uo{c:Ct}{k:Nat}{T:Tg}(h:Yj c k T=true):∀i∈T.ix,c.N.length<=i/\i<c.N.length+k:=λi hi=>dec (eJ.mp h i hi)
def o1(x:Option Ex):Nat:=match x with |some _=>1 |none=>0
def Tv(P:Pg)(s:Ct->Ex->Expr->Expr)(c:Ct)(x:Ex)(t:Expr):Expr:=match x with
 |.val d=>Hh d t
 |.slot i=>.Name (nm c i) t.pos
 |.bin op a b=>.BinOp (s c a (kid t 0)) op (s c b (kid t 1)) t.pos
 |.cmp op a b=>.Compare (s c a (kid t 0)) [op] [s c b (kid t 1)] t.pos
 |.chain a ops xs=>.Compare (s c a (kid t 0)) ops (pU (s c) t 1 xs) t.pos
 |.neg a=>.UnaryOp .USub (s c a (kid t 0)) t.pos
 |.not a=>.UnaryOp .Not (s c a (kid t 0)) t.pos
 |.and xs=>.BoolOp .And (pU (s c) t 0 xs) t.pos
 |.or xs=>.BoolOp .Or (pU (s c) t 0 xs) t.pos
 |.ite a b d=>.IfExp (s c a (kid t 0)) (s c b (kid t 1)) (s c d (kid t 2)) t.pos
 |.tup xs=>.Tuple (pU (s c) t 0 xs) (yG t) t.pos
 |.lst xs=>.List (pU (s c) t 0 xs) t.pos
 |.ix a b=>.Subscript (s c a (kid t 0)) (s c b (kid t 1)) t.pos
 |.slice a lo hi=>.Subscript (s c a (kid t 0)) (.Slice (Ti (s c) (kid (kid t 1) 0) lo) (Ti (s c) (kid (kid t 1) 1) hi) none (kid t 1).pos) t.pos
 |.call i xs=>.Call (.Name (Mq P i) (kid t 0).pos) (pU (s c) t 1 xs) [] t.pos
 |.blt b xs=>.Call (.Name (X6 b).1 (kid t 0).pos) (pU (s c) t 1 xs) [] t.pos
 |.pL a n=>.Call (.Name "isinstance" (kid t 0).pos) [s c a (kid t 1),.Name (Str.ofString n) (kid t 2).pos] [] t.pos
 |.comp _ _ T it co xe=>.ListComp (s (j4 c t) xe (kid t 0)) [⟨yI (j4 c t) T (kid t 1),CN (s c) it (kid t 2),Ms (s (j4 c t)) (kid t 3) co,0⟩] (lZ t) t.pos
 |.iF _ _ T it ks xv=>.DictComp (.Tuple (pU (s (j4 c t)) (kid t 0) 0 ks) (yG (kid t 0)) (kid t 0).pos) (s (j4 c t) xv (kid t 1)) [⟨yI (j4 c t) T (kid t 2),CN (s c) it (kid t 3),[],0⟩] (lZ t) t.pos
 |.bN _ _ T1 j3 c1 T it co xe=>.ListComp (s (j4 c t) xe (kid t 0)) [⟨yI (j4 c t) T1 (kid t 1),CN (s c) j3 (kid t 2),Ms (s (j4 c t)) (kid t 3) c1,0⟩,⟨yI (j4 c t) T (kid t (3+o1 c1)),CN (s (j4 c t)) it (kid t (4+o1 c1)),Ms (s (j4 c t)) (kid t (5+o1 c1)) co,0⟩] (lZ t) t.pos
 |.cU a=>.Call (.Name "list" (kid t 0).pos) [.Call (.Name "range" (kid (kid t 1) 0).pos) [s c a (kid (kid t 1) 1)] [] (kid t 1).pos] [] t.pos
 |.fU a b=>.Call (.Name "list" (kid t 0).pos) [.Call (.Name "range" (kid (kid t 1) 0).pos) [s c a (kid (kid t 1) 1),s c b (kid (kid t 1) 2)] [] (kid t 1).pos] [] t.pos
 |.iG a=>.Call (.Name "sorted" (kid t 0).pos) [s c a (kid t 1)] [⟨some "reverse",.Constant (.bool true) (yG (kid t 2)) (kid t 2).pos,kwT t⟩] t.pos
 |.meth m o x=>.Call (.Attribute (s c o (kid (kid t 0) 0)) (Tc m) (kid t 0).pos) [s c x (kid t 1)] [] t.pos
 |.append i x=>.Call (.Attribute (.Name (nm c i) (kid (kid t 0) 0).pos) "append" (kid t 0).pos) [s c x (kid t 1)] [] t.pos
 |.extend i x=>.Call (.Attribute (.Name (nm c i) (kid (kid t 0) 0).pos) "extend" (kid t 0).pos) [s c x (kid t 1)] [] t.pos
 |.gZ i x=>.Call (.Attribute (.Name (nm c i) (kid (kid t 0) 0).pos) "pop" (kid t 0).pos) [s c x (kid t 1)] [] t.pos
 |_=>t
noncomputable def VJ(t:Expr):Bool:=(kid t 0).pos.endLine==t.pos.line
def ok1(P:Pg)(s:Ct->Ex->Expr->Expr)(f:Ct->Ex->Expr->Bool)(c:Ct)(x:Ex)(t:Expr):Bool:=match x with
 |.val d=>okV P c d t
 |.slot i=>lY c i
 |.bin _ a b=>f c a (kid t 0)&&f c b (kid t 1)
 |.cmp op a b=>f c a (kid t 0)&&(f c b (kid t 1)&&!behindInMarks op (s c b (kid t 1)))
 |.chain a ops xs=>f c a (kid t 0)&&(Ju (f c) t 1 xs&&(!lastMarks ops (pU (s c) t 1 xs)&&(decide (2<=ops.length)&&decide (2<=xs.length))))
 |.neg a=>f c a (kid t 0)
 |.not a=>f c a (kid t 0)
 |.and xs=>Ju (f c) t 0 xs
 |.or xs=>Ju (f c) t 0 xs
 |.ite a b d=>f c a (kid t 0)&&(f c b (kid t 1)&&f c d (kid t 2))
 |.tup xs=>Ju (f c) t 0 xs
 |.lst xs=>Ju (f c) t 0 xs
 |.ix a b=>f c a (kid t 0)&&f c b (kid t 1)
 |.slice a lo hi=>f c a (kid t 0)&&(Tj (f c) (kid (kid t 1) 0) lo&&Tj (f c) (kid (kid t 1) 1) hi)
 |.call i xs=>P.fn[i]?.isSome&&(glB c (Mq P i)&&(Ju (f c) t 1 xs&&!xs.isEmpty))
 |.blt b xs=>zS P c (X6 b).1&&(Ju (f c) t 1 xs&&!xs.isEmpty)
 |.pL a n=>zS P c "isinstance" && (f c a (kid t 1)&&(v9.contains n&&zS P c (Str.ofString n)))
 |.iF n k T it ks xv=>decide (n=c.N.length)&&(blK c t k&&(okN (j4 c t) T.ix&&(Yj c k T&&(VH P c (f c) it (kid t 3)&&(Ju (f (j4 c t)) (kid t 0) 0 ks&&f (j4 c t) xv (kid t 1))))))
 |.comp n k T it co xe=>decide (n=c.N.length)&&(blK c t k&&(okN (j4 c t) T.ix&&(Yj c k T&&(VH P c (f c) it (kid t 2)&&(Tj (f (j4 c t)) (kid t 3) co&&f (j4 c t) xe (kid t 0))))))
 |.bN n k T1 j3 c1 T it co xe=>decide (n=c.N.length)&&(blK c t k&&((okN (j4 c t) T1.ix&&okN (j4 c t) T.ix)&&((Yj c k T1&&Yj c k T)&&((VH P c (f c) j3 (kid t 2)&&Tj (f (j4 c t)) (kid t 3) c1)&&((VH P (j4 c t) (f (j4 c t)) it (kid t (4+o1 c1))&&Tj (f (j4 c t)) (kid t (5+o1 c1)) co)&&f (j4 c t) xe (kid t 0))))))
 |.cU a=>(zS P c "range" && zS P c "list")&&f c a (kid (kid t 1) 1)
 |.fU a b=>(zS P c "range" && zS P c "list")&&(f c a (kid (kid t 1) 1)&&f c b (kid (kid t 1) 2))
 |.iG a=>zS P c "sorted" && f c a (kid t 1)
 |.meth _ o x=>VJ t&&(f c o (kid (kid t 0) 0)&&f c x (kid t 1))
 |.append i x=>VJ t&&(lY c i&&f c x (kid t 1))
 |.extend i x=>VJ t&&(lY c i&&f c x (kid t 1))
 |.gZ i x=>VJ t&&(lY c i&&f c x (kid t 1))
 |_=>false
def kK(P:Pg):Nat->Ct->Ex->Expr->Expr
 | 0=>λ_ _ t=>t
 |n+1=>Tv P (kK P n)
def uq(P:Pg):Nat->Ct->Ex->Expr->Bool
 | 0=>λ_ _ _=>false
 |n+1=>ok1 P (kK P n) (uq P n)
def Cm(P:Pg)(c:Ct)(e:Expr)(x:Ex):Prop:=∃n t,e=kK P n c x t/\uq P n c x t=true
theorem Cm.mk{P:Pg}{n:Nat}{c:Ct}{x:Ex}{t:Expr}(h:uq P n c x t=true):Cm P c (kK P n c x t) x:=⟨n,t,rfl,h⟩
theorem Cm.out(h:Cm P c e x):je P (Cm P) c e x:=by
 obtain⟨n,t,rfl,h⟩:=h;cases n with
 |zero=>cases h
 |succ n=>
 replace h:ok1 P (kK P n) (uq P n) c x t=true:=h;show je P (Cm P) c (Tv P (kK P n) c x t) x;cases x
 case val d=>exact Tt h
 case slot i=>exact .var (dX h).1 (dX h).2.1 (dX h).2.2
 case bin op a b=>exact .bin (.mk (aq h).1) (.mk (aq h).2)
 case cmp op a b=>exact .cmp (.mk (aq h).1) (.mk (aq (aq h).2).1) (um (aq (aq h).2).2)
 case chain a ops xs=>
  obtain⟨h1,h2⟩:=aq h;obtain⟨h3,h4⟩:=aq h2;obtain⟨h5,h6⟩:=aq h4;have l1:=dec (aq h6).1;have l2:=dec (aq h6).2
  match ops,l1,xs,l2,h3,h5 with
  |_::_::_,_,_::_::_,_,h3,h5=>exact .chain (.mk h1) (iK (R:=Cm P c) .mk h3) (um h5)
 case neg a=>exact .neg (.mk h)
 case not a=>exact .not (.mk h)
 case and xs=>exact .and (iK (R:=Cm P c) .mk h)
 case or xs=>exact .or (iK (R:=Cm P c) .mk h)
 case ite a b d=>exact .ite (.mk (aq h).1) (.mk (aq (aq h).2).1) (.mk (aq (aq h).2).2)
 case tup xs=>exact .tup (iK (R:=Cm P c) .mk h)
 case lst xs=>exact .lst (iK (R:=Cm P c) .mk h)
 case ix a b=>exact .ix (.mk (aq h).1) (.mk (aq h).2)
 case slice a lo hi=>exact .slice (.mk (aq h).1) (Hg (R:=Cm P c) .mk (aq (aq h).2).1) (Hg (R:=Cm P c) .mk (aq (aq h).2).2)
 case call i xs=>
  obtain⟨h1,h2⟩:=aq h;obtain⟨h3,h4⟩:=aq h2;obtain⟨fi,q1,q2⟩:=Mr h1;cases xs with
  |nil=>cases (aq h4).2
  |cons x xs=>exact .call q1 q2 (dec h3) (iK (R:=Cm P c) .mk (aq h4).1)
 case blt b xs=>
  cases xs with
  |nil=>cases (aq (aq h).2).2
  |cons x xs=>exact .blt rfl (bq (aq h).1).1 (bq (aq h).1).2 (iK (R:=Cm P c) .mk (aq (aq h).2).1)
 case pL a n=>exact .pL (.mk (aq (aq h).2).1) (bq (aq h).1).1 (bq (aq h).1).2 (bq (aq (aq (aq h).2).2).2).1 (bq (aq (aq (aq h).2).2).2).2 rfl (BS.mp (aq (aq (aq h).2).2).1)
 case comp n' k T it co xe=>obtain⟨h1,a1⟩:=aq h;clear h;obtain⟨h2,a2⟩:=aq a1;obtain⟨h3,a3⟩:=aq a2;obtain⟨h4,a4⟩:=aq a3;obtain⟨h5,a5⟩:=aq a4;obtain rfl:=dec h1;exact .comp (aq h2).1 (aq (aq h2).2).1 (gH (aq (aq h2).2).2) (mh h3) (uo h4) (pW (R:=Cm P c) .mk h5) (yH (R:=Cm P (j4 c t)) .mk (aq a5).1) (.mk (aq a5).2)
 case iF n' k T it ks xv=>obtain⟨h1,a1⟩:=aq h;clear h;obtain⟨h2,a2⟩:=aq a1;obtain⟨h3,a3⟩:=aq a2;obtain⟨h4,a4⟩:=aq a3;obtain⟨h5,a5⟩:=aq a4;obtain rfl:=dec h1;exact .iF (aq h2).1 (aq (aq h2).2).1 (gH (aq (aq h2).2).2) (mh h3) (uo h4) (pW (R:=Cm P c) .mk h5) (iK (R:=Cm P (j4 c t)) .mk (aq a5).1) (.mk (aq a5).2)
 case bN n' k T1 j3 c1 T it co xe=>obtain⟨h1,a1⟩:=aq h;clear h;obtain⟨h2,a2⟩:=aq a1;obtain⟨h3,a3⟩:=aq a2;obtain⟨h4,a4⟩:=aq a3;obtain⟨h5,a5⟩:=aq a4;obtain⟨h6,h7⟩:=aq a5;obtain rfl:=dec h1;exact .bN (aq h2).1 (aq (aq h2).2).1 (gH (aq (aq h2).2).2) (mh (aq h3).1) (mh (aq h3).2) (uo (aq h4).1) (uo (aq h4).2) (pW (R:=Cm P c) .mk (aq h5).1) (yH (R:=Cm P (j4 c t)) .mk (aq h5).2) (pW (R:=Cm P (j4 c t)) .mk (aq h6).1) (yH (R:=Cm P (j4 c t)) .mk (aq h6).2) (.mk h7)
 case cU a=>exact .cU (.mk (aq h).2) (bq (aq (aq h).1).1).1 (bq (aq (aq h).1).1).2 (bq (aq (aq h).1).2).1 (bq (aq (aq h).1).2).2
 case fU a b=>exact .fU (.mk (aq (aq h).2).1) (.mk (aq (aq h).2).2) (bq (aq (aq h).1).1).1 (bq (aq (aq h).1).1).2 (bq (aq (aq h).1).2).1 (bq (aq (aq h).1).2).2
 case iG a=>exact .iG (.mk (aq h).2) (bq (aq h).1).1 (bq (aq h).1).2
 case meth m o x=>exact .meth (.mk (aq (aq h).2).1) (.mk (aq (aq h).2).2) rfl (aq h).1
 case append i x=>exact .append (dX (aq (aq h).2).1).1 (dX (aq (aq h).2).1).2.1 (dX (aq (aq h).2).1).2.2 (.mk (aq (aq h).2).2) (aq h).1
 case extend i x=>exact .extend (dX (aq (aq h).2).1).1 (dX (aq (aq h).2).1).2.1 (dX (aq (aq h).2).1).2.2 (.mk (aq (aq h).2).2) (aq h).1
 case gZ i x=>exact .gZ (dX (aq (aq h).2).1).1 (dX (aq (aq h).2).1).2.1 (dX (aq (aq h).2).1).2.2 (.mk (aq (aq h).2).2) (aq h).1
 all_goals exact nt h
abbrev CP (P:Pg) (c:Ct) (es:List Expr) (xs:List Ex):Prop:=jt (Cm P c) es xs
abbrev CmO (P:Pg) (c:Ct) (e:Option Expr) (x:Option Ex):Prop:=CK (Cm P c) e x
abbrev yJ (P:Pg) (c:Ct) (es:List Expr) (x:Option Ex):Prop:=pP (Cm P c) es x
abbrev Tw (P:Pg) (c:Ct) (e:Expr) (x:Ex):Prop:=lX P (Cm P c) c e x
noncomputable def ek(t:Stmt):List Expr:=match t with
 |.Return o p=>[o.getD (.Name Str.empty p)]
 |.Assign ts e _=>e::ts
 |.AugAssign a _ e _=>[a,e]
 |.For a b _ _ _=>[a,b]
 |.While a _ _ _=>[a]
 |.If a _ _ _=>[a]
 |.Raise o _ p=>[o.getD (.Name Str.empty p)]
 |.Expr e _=>[e]
 |_=>[]
def aK(t:Stmt)(i:Nat):Expr:=(ek t).getD i (.Name Str.empty t.pos)
noncomputable def Jv(t:Stmt):List Stmt:=match t with |.For _ _ b _ _=>b |.While _ b _ _=>b |.If _ b _ _=>b |_=>[]
noncomputable def bd1(t:Stmt):List Stmt:=match t with |.If _ _ b _=>b |_=>[]
noncomputable def sg(l:List Stmt)(i:Nat):Stmt:=l.getD i (.Pass p0)
def Yk(e:Expr):Bool:=match e with |.Tuple _ _ _=>false |_=>true
def Tz:Sm->Nat
 |.rows _ _ _ _ _=>3
 |_=>0
def qU(fg:Sm->List Stmt->List Stmt)(fs:Sm->Stmt->Stmt):List Sm->List Stmt->List Stmt
 | [],_=>[]
 |x::xs,ss=>if 0<Tz x then fg x (ss.take (Tz x))++qU fg fs xs (ss.drop (Tz x))else fs x (sg ss 0)::qU fg fs xs ss.tail
def Jw(fg:Sm->List Stmt->Bool)(fs:Sm->Stmt->Bool):List Sm->List Stmt->Bool
 | [],_=>true
 |x::xs,ss=>if 0<Tz x then fg x (ss.take (Tz x))&&Jw fg fs xs (ss.drop (Tz x))else fs x (sg ss 0)&&Jw fg fs xs ss.tail
theorem TF{RG:List Stmt->Sm->Prop}{RS:Stmt->Sm->Prop}{sg':Sm->List Stmt->List Stmt}{kg:Sm->List Stmt->Bool}{ss':Sm->Stmt->Stmt}{ks:Sm->Stmt->Bool}(hg:∀{x ss},kg x ss=true->RG (sg' x ss) x)(hs:∀{x t},ks x t=true->RS (ss' x t) x){xs:List Sm}{ss:List Stmt}(h:Jw kg ks xs ss=true):pQ RG RS (qU sg' ss' xs ss) xs:=by
 induction xs generalizing ss with
 |nil=>exact .nil
 |cons x xs ih=>
  unfold Jw at h;unfold qU;by_cases hx:0<Tz x
  .
   rw[eP hx]at h ⊢
   exact .grp (hg (aq h).1) (ih (aq h).2)
  .
   rw[eQ hx]at h ⊢
   exact .cons (hs (aq h).1) (ih (aq h).2)
def Yl(y a b:Str)(t:Stmt):Stmt:=.Expr (.Call (.Attribute (.Subscript (.Name y (kid (kid (kid (aK t 0) 0) 0) 0).pos) (.Name a (kid (kid (kid (aK t 0) 0) 0) 1).pos) (kid (kid (aK t 0) 0) 0).pos) "append" (kid (aK t 0) 0).pos) [.Name b (kid (aK t 0) 1).pos] [] (aK t 0).pos) t.pos
noncomputable def nmE(e:Expr):Str:=(Mf e).getD Str.empty
def bvK(c:Ct)(sc:Scope)(x:Str):Bool:=wc c.sc sc&&(iI c.N (pR c.N sc) sc (iJ sc).length&&(pS (pR c.N sc)&&(decide ((iJ sc).idxOf x<(iJ sc).length/\(pR c.N sc)[c.N.length+(iJ sc).idxOf x]?=some x)&&fO ⟨pR c.N sc,sc,false,Str.empty⟩ x)))
def Pq(c:Ct)(im it iy ia ib:Nat)(ss:List Stmt):List Stmt:=
 [.Assign [.Name (nm c iy) (aK (sg ss 0) 1).pos] (.ListComp (.List [] (kid (aK (sg ss 0) 0) 0).pos) [⟨.Name (nmE (kid (aK (sg ss 0) 0) 1)) (kid (aK (sg ss 0) 0) 1).pos,.Call (.Name "range" (kid (kid (aK (sg ss 0) 0) 2) 0).pos) [.Name (nm c im) (kid (kid (aK (sg ss 0) 0) 2) 1).pos] [] (kid (aK (sg ss 0) 0) 2).pos,[],0⟩] (lZ (aK (sg ss 0) 0)) (aK (sg ss 0) 0).pos) (sg ss 0).pos,
 .For (.Tuple [.Name (nm c ia) (kid (aK (sg ss 1) 0) 0).pos,.Name (nm c ib) (kid (aK (sg ss 1) 0) 1).pos] (yG (aK (sg ss 1) 0)) (aK (sg ss 1) 0).pos) (.Name (nm c it) (aK (sg ss 1) 1).pos) [Yl (nm c iy) (nm c ia) (nm c ib) (sg (Jv (sg ss 1)) 0),Yl (nm c iy) (nm c ib) (nm c ia) (sg (Jv (sg ss 1)) 1)] [] (sg ss 1).pos,
 .Return (some (.Name (nm c iy) (aK (sg ss 2) 0).pos)) (sg ss 2).pos]
def Pu(P:Pg)(c:Ct)(im it iy ia ib:Nat)(ss:List Stmt):Bool:=decide (ia≠iy/\ib≠iy/\ia≠ib)&&(lY c im&&(lY c it&&((lY c iy&&DW c (nm c iy) (aK (sg ss 0) 1).pos (aK (sg ss 0) 0).pos (lZ (aK (sg ss 0) 0)))&&((lY c ia&&fO c (nm c ia))&&((lY c ib&&fO c (nm c ib)) &&
 (bvK c (lZ (aK (sg ss 0) 0)) (nmE (kid (aK (sg ss 0) 0) 1))&&(zS P c "range" && (VJ (aK (sg (Jv (sg ss 1)) 0) 0)&&VJ (aK (sg (Jv (sg ss 1)) 1) 0)))))))))
theorem Hi{P:Pg}{R:Expr->Ex->Prop}{RS:Stmt->Sm->Prop}{c:Ct}{im it iy ia ib:Nat}{ss:List Stmt}(h:Pu P c im it iy ia ib ss=true):Mp P R RS c (Pq c im it iy ia ib ss) (.rows im it iy ia ib):=by obtain⟨h1,a1⟩:=aq h;clear h;obtain⟨h2,a2⟩:=aq a1;obtain⟨h3,a3⟩:=aq a2;obtain⟨h4,a4⟩:=aq a3;obtain⟨h5,a5⟩:=aq a4;obtain⟨h6,a6⟩:=aq a5;obtain⟨h7,a7⟩:=aq a6;obtain⟨h8,a8⟩:=aq a7;obtain⟨k1,k2⟩:=aq (aq h7).2;exact .rows (dX h2) (dX h3) ⟨(dX (aq h4).1).1,(aq h4).2,(dX (aq h4).1).2.2⟩ ⟨dX (aq h5).1,(aq h5).2⟩ ⟨dX (aq h6).1,(aq h6).2⟩ (dec h1) ⟨(dec (aq (aq k2).2).1).1,(aq h7).1,k1,gH (aq k2).1,(dec (aq (aq k2).2).1).2,(aq (aq k2).2).2⟩ (bq h8) (aq a8).1 (aq a8).2
def TJ(P:Pg)(m:Nat)(fs:Sm->Stmt->Stmt)(c:Ct)(x:Sm)(ss:List Stmt):List Stmt:=match x with
 |.rows im it iy ia ib=>Pq c im it iy ia ib ss
 |_=>ss
def TL(P:Pg)(m:Nat)(ks:Sm->Stmt->Bool)(c:Ct)(x:Sm)(ss:List Stmt):Bool:=match x with
 |.rows im it iy ia ib=>Pu P c im it iy ia ib ss
 |_=>false
theorem TQ{P:Pg}{m:Nat}{RS:Stmt->Sm->Prop}{fs:Sm->Stmt->Stmt}{ks:Sm->Stmt->Bool}(hs:∀{x t},ks x t=true->RS (fs x t) x){c:Ct}{x:Sm}{ss:List Stmt}(h:TL P m ks c x ss=true):Mp P (Cm P c) RS c (TJ P m fs c x ss) x:=by
 cases x
 case rows im it iy ia ib=>exact Hi h
 all_goals exact nt h
def Ym(P:Pg)(m:Nat)(fs:Sm->Stmt->Stmt)(c:Ct)(x:Sm)(t:Stmt):Stmt:=match x with
 |.ret x=>.Return (some (kK P (m+1) c x (aK t 0))) t.pos
 |.expr x=>.Expr (kK P (m+1) c x (aK t 0)) t.pos
 |.set i x=>.Assign [.Name (nm c i) (aK t 1).pos] (kK P (m+1) c x (aK t 0)) t.pos
 |.setC i x=>.Assign [.Name (nm c i) (aK t 1).pos] (kK P (m+1) c x (aK t 0)) t.pos
 |.tgt T x=>.Assign [yI c T (aK t 1)] (kK P (m+1) c x (aK t 0)) t.pos
 |.item i xj x=>.Assign [.Subscript (.Name (nm c i) (kid (aK t 1) 0).pos) (kK P (m+1) c xj (kid (aK t 1) 1)) (aK t 1).pos] (kK P (m+1) c x (aK t 0)) t.pos
 |.aug i op x=>.AugAssign (.Name (nm c i) (aK t 0).pos) op (kK P (m+1) c x (aK t 1)) t.pos
 |.items2 i x j y e=>.Assign [.Tuple [.Subscript (.Name (nm c i) (kid (kid (aK t 1) 0) 0).pos) (kK P (m+1) c x (kid (kid (aK t 1) 0) 1)) (kid (aK t 1) 0).pos,.Subscript (.Name (nm c j) (kid (kid (aK t 1) 1) 0).pos) (kK P (m+1) c y (kid (kid (aK t 1) 1) 1)) (kid (aK t 1) 1).pos] (yG (aK t 1)) (aK t 1).pos] (kK P (m+1) c e (aK t 0)) t.pos
 |.ite e a b=>.If (kK P (m+1) c e (aK t 0)) (qU (TJ P m fs c) fs a (Jv t)) (qU (TJ P m fs c) fs b (bd1 t)) t.pos
 |.loop T it b=>.For (yI c T (aK t 0)) (CN (kK P (m+1) c) it (aK t 1)) (qU (TJ P m fs c) fs b (Jv t)) [] t.pos
 |.while e b=>.While (kK P (m+1) c e (aK t 0)) (qU (TJ P m fs c) fs b (Jv t)) [] t.pos
 |_=>t
def Yn(P:Pg)(m:Nat)(ks:Sm->Stmt->Bool)(c:Ct)(x:Sm)(t:Stmt):Bool:=match x with
 |.ret x=>uq P (m+1) c x (aK t 0)
 |.expr x=>uq P (m+1) c x (aK t 0)&&!kJ (λ_ _=>true) (kK P (m+1) c x (aK t 0))
 |.set i x=>stB c i&&(uq P (m+1) c x (aK t 0)&&!kJ (λs p=>DW c (nm c i) (aK t 1).pos p s) (kK P (m+1) c x (aK t 0)))
 |.setC i x=>decide (c.N[i]?=some (nm c i))&&(DW c (nm c i) (aK t 1).pos (aK t 0).pos (lZ (aK t 0))&&(uq P (m+1) c x (aK t 0)&&(match x with
  |.comp _ _ _ _ _ _=>true
  |.bN _ _ _ _ _ _ _ _ _=>true
  |_=>false)))
 |.tgt T x=>(match T with |.tp is=>Yk (kK P (m+1) c x (aK t 0))||Ma c (Mu c (aK t 1) 0 is) (kK P (m+1) c x (aK t 0)) |_=>false)&&(okN c T.ix&&(uq P (m+1) c x (aK t 0)&&!kJ (λ_ _=>true) (kK P (m+1) c x (aK t 0))))
 |.item i xj x=>lY c i&&(uq P (m+1) c xj (kid (aK t 1) 1)&&(uq P (m+1) c x (aK t 0)&&!kJ (λ_ _=>true) (kK P (m+1) c x (aK t 0))))
 |.aug i _ x=>stB c i&&uq P (m+1) c x (aK t 1)
 |.items2 i x j y e=>(lY c i&&lY c j)&&((uq P (m+1) c x (kid (kid (aK t 1) 0) 1)&&uq P (m+1) c y (kid (kid (aK t 1) 1) 1))&&(uq P (m+1) c e (aK t 0)&&!kJ (λ_ _=>true) (kK P (m+1) c e (aK t 0))))
 |.ite e a b=>uq P (m+1) c e (aK t 0)&&(Jw (TL P m ks c) ks a (Jv t)&&Jw (TL P m ks c) ks b (bd1 t))
 |.loop T it b=>okN c T.ix&&(VH P c (uq P (m+1) c) it (aK t 1)&&Jw (TL P m ks c) ks b (Jv t))
 |.while e b=>uq P (m+1) c e (aK t 0)&&Jw (TL P m ks c) ks b (Jv t)
 |.stuck=>true
 |_=>false
def Pw(P:Pg)(m:Nat):Nat->Ct->Sm->Stmt->Stmt
 | 0=>λ_ _ t=>t
 |n+1=>λc=>Ym P m (Pw P m n c) c
def Px(P:Pg)(m:Nat):Nat->Ct->Sm->Stmt->Bool
 | 0=>λ_ _ _=>false
 |n+1=>λc=>Yn P m (Px P m n c) c
def Jx(P:Pg)(c:Ct)(s:Stmt)(x:Sm):Prop:=∃m n t,s=Pw P m n c x t/\Px P m n c x t=true
abbrev Hj (P:Pg) (c:Ct) (ss:List Stmt) (xs:List Sm):Prop:=pQ (Mp P (Cm P c) (Jx P c) c) (Jx P c) ss xs
theorem Jx.mk{P:Pg}{m n:Nat}{c:Ct}{x:Sm}{t:Stmt}(h:Px P m n c x t=true):Jx P c (Pw P m n c x t) x:=⟨m,n,t,rfl,h⟩
theorem Hj.mk{P:Pg}{m n:Nat}{c:Ct}{xs:List Sm}{ss:List Stmt}(h:Jw (TL P m (Px P m n c) c) (Px P m n c) xs ss=true):Hj P c (qU (TJ P m (Pw P m n c) c) (Pw P m n c) xs ss) xs:=TF (TQ .mk) .mk h
theorem ZN{e:Expr}(h:(!kJ (λ_ _=>true) e)=true):kJ (λ_ _=>true) e=false:=um h
theorem Jx.out{P:Pg}{c:Ct}{s:Stmt}{x:Sm}(h:Jx P c s x):jR P (Cm P c) (Jx P c) c s x:=by
 obtain⟨m,n,t,rfl,h⟩:=h;cases n with
 |zero=>cases h
 |succ n=>
 replace h:Yn P m (Px P m n c) c x t=true:=h;show jR P (Cm P c) (Jx P c) c (Ym P m (Pw P m n c) c x t) x;cases x
 case ret x=>exact .ret (.mk h)
 case expr x=>exact .expr (.mk (aq h).1) (ZN (aq h).2)
 case set i x=>have w:=(aq (aq h).2).2;exact .set (dec (aq (aq h).1).1) (aq (aq h).1).2 (.mk (aq (aq h).2).1) (um w)
 case setC i x=>
  obtain⟨h1,h2⟩:=aq h;clear h;obtain⟨h3,h4⟩:=aq h2;obtain⟨h5,h6⟩:=aq h4;cases x
  case comp n' kk T it co xe=>exact .setC (dec h1) h3 (.mk h5)
  case bN n' kk T1 j3 c1 T it co xe=>exact .Pp (dec h1) h3 (.mk h5)
  all_goals exact Bool.noConfusion (show false=true from h6)
 case tgt T x=>
  obtain⟨h1,h2⟩:=aq h;clear h;obtain⟨h3,h4⟩:=aq h2;cases T with
  |nm i=>cases h1
  |tp is=>exact .tgt (mh h3) (.mk (aq h4).1) (((n0 _ _).mp h1).imp (λh vs k p q=>by rw[q]at h;cases h) id) (ZN (aq h4).2)
 case item i xj x=>exact .item (dX (aq h).1).1 (dX (aq h).1).2.1 (dX (aq h).1).2.2 (.mk (aq (aq h).2).1) (.mk (aq (aq (aq h).2).2).1) (ZN (aq (aq (aq h).2).2).2)
 case aug i op x=>exact .aug (dec (aq (aq h).1).1) (aq (aq h).1).2 (.mk (aq h).2)
 case items2 i x j y e=>obtain⟨h1,h2⟩:=aq h;clear h;obtain⟨h3,h4⟩:=aq h2;exact .items2 (dX (aq h1).1).1 (dX (aq h1).1).2.1 (dX (aq h1).1).2.2 (dX (aq h1).2).1 (dX (aq h1).2).2.1 (dX (aq h1).2).2.2 (.mk (aq h3).1) (.mk (aq h3).2) (.mk (aq h4).1) (ZN (aq h4).2)
 case ite e a b=>exact .ite (.mk (aq h).1) (Hj.mk (aq (aq h).2).1) (Hj.mk (aq (aq h).2).2)
 case loop T it b=>exact .loop (mh (aq h).1) (pW (R:=Cm P c) .mk (aq (aq h).2).1) (Hj.mk (aq (aq h).2).2)
 case «while» e b=>exact .while (.mk (aq h).1) (Hj.mk (aq h).2)
 case stuck=>exact .stuck
 all_goals exact nt h
noncomputable def CQ(e:Expr):Bool:=match e with
 |.Constant .. |.Name .. |.BinOp .. |.Compare .. |.UnaryOp .. |.BoolOp .. |.IfExp .. |.Tuple .. |.List .. |.Subscript .. |.Call .. |.JoinedStr .. |.ListComp .. |.Dict .. |.DictComp ..=>true
 |_=>false
theorem Cm.CQ{P:Pg}{c:Ct}{e:Expr}{x:Ex}(h:Cm P c e x):CQ e=true:=by
 obtain⟨n,t,rfl,h⟩:=h;cases n with
 |zero=>cases h
 |succ n=>
 replace h:ok1 P (kK P n) (uq P n) c x t=true:=h;show Ev.CQ (Tv P (kK P n) c x t)=true;cases x
 case val d=>show Ev.CQ (Hh d t)=true;unfold Hh;split <;> rfl
 all_goals first |rfl |exact nt h
section
theorem Cm.star(h:Cm P c e x)(es:List Expr):starEach (e::es) env=(false,eval e env)::starEach es env:=by have hs:=h.CQ;cases e <;> first |rfl |exact Bool.noConfusion (show false=true from hs)
theorem jt.star(h:CP P c es xs):starEach es env=es.map λe=>(false,eval e env):=by
 induction es generalizing xs with
 |nil=>rfl
 |cons e es ih=>
  cases h with
  |cons h1 h2=>rw[h1.star,ih h2];rfl
theorem jt.plain(h:CP P c es xs):(backTo pos (starEach es env)).any (·.1)=false:=by
 rw[h.star];unfold backTo
 induction es generalizing xs with
 |nil=>rfl
 |cons e es ih=>
  cases h with
  |cons h1 h2=>rw[List.map_cons,List.map_cons,List.any_cons,ih h2];rfl
theorem Cm.folded(h:Cm P c e x)(y:Value):foldedSetIterable e env y=pure y:=by have hs:=h.CQ;cases e <;> first |rfl |exact Bool.noConfusion (show false=true from hs)
theorem lX.folded(h:Tw P c e x)(y:Value):foldedSetIterable e env y=pure y:=by
 cases h with
 |seq h=>exact h.folded y
 |cM _ _ _=>rfl
 |cO _ _ _ _=>rfl
 |nP _ _ _ _ _=>rfl
 |enum _ _ _=>rfl
theorem Cm.Mw(h:Cm P c e x):sY e:=by have hs:=h.CQ;cases e <;> first |exact λ_ _=>rfl |exact Bool.noConfusion (show false=true from hs)
end
structure nq(P:Pg)(rn:Rn):Prop where
 e:∀{X:Cx}{c:Ct}{z:Z}{k:Nat}{x:Ex}{e:Expr}{g g':G}{r:R},bG P k X c->z.K=X.K->Cm P c e x->rn.e z.bor k x g=some (r,g')->aB X z e g r g'
 t:∀{X:Cx}{c:Ct}{z:Z}{k:Nat}{x:Ex}{e:Expr}{g g':G}{b:Bool},bG P k X c->z.K=X.K->Cm P c e x->rn.t z.bor k x g=some (b,g')->dM X z e g b g'
 b:∀{X:Cx}{c:Ct}{z:Z}{k:Nat}{xs:List Sm}{uP:List Stmt}{g g':G}{f:Fl},bG P k X c->c.df=true->z.K=X.K->Hj P c uP xs->rn.b z.bor k xs g=some (f,g')->fJ X z uP g f g'
theorem fD(h:iI N N' scope k=true):Names N N' scope k:=by
 unfold iI at h;simp only[c8,b8,eJ,lS]at h;obtain⟨⟨h1,h2⟩,h3⟩:=h;refine⟨h1,λx e=>?_,λi x e hi=>?_⟩
 . rw[e]at h2;exact l4 h2
 . have h4:=h3 i hi;rw[e]at h4;simp only[n0,c8,b8]at h4;exact h4
theorem jf(ct:bG P k X c)(h:wc c.sc scope=true):bR X.env.scope scope:=by
 unfold wc at h;simp only[c8,b8,eJ,n0]at h;obtain⟨h1,h2⟩:=h;refine⟨h1,λy hy=>(h2 y hy).1.1,λy hy e=>?_,λy hy e=>?_,λy hy e=>?_⟩
 . exact ((h2 y hy).1.2).elim (λq=>absurd e q) id
 . exact ((h2 y hy).2).elim (λq=>absurd e q) λq=>q.1
 . exact ((h2 y hy).2).elim (λq=>absurd e q) λq=>ct.fre _ q.2
theorem jS{X:Cx}{N':List Str}{scope:Scope}{b:Bk}{x:Str}:(X.blk N' scope b).env.scope.names.lookup x=(scope.names.lookup x).map λk=>if (k==NameKind.free&&X.env.scope.kind==.function&&X.env.kindOf x==some .cell)then NameKind.cell else k:=eZ
theorem bG.blk{P:Pg}{k:Nat}{X:Cx}{c:Ct}{scope:Scope}{N':List Str}(ct:bG P k X c)(hnd:N'.Nodup)(b:Bk):bG P k (X.blk N' scope b) ⟨N',scope,false,Str.empty⟩:=by
 refine⟨rfl,hnd,λx e=>?_,λx e=>?_,λx e=>?_,λe=>absurd e ⋯,λx e=>?_,λe=>absurd e ⋯,ct.calm,rfl,ct.md,ct.room,λe=>absurd (show Str.empty=("law":Str)from e) ⋯⟩
 . have e':scope.names.lookup x=some .local:=e;rw[jS,e'];rfl
 . have e':scope.names.lookup x=some .globalImplicit:=e;show (X.blk N' scope b).env.scope.names.lookup x=_;rw[jS,e'];rfl
 .
  rw[jS];rcases e with e |e
  . have e':scope.names.lookup x=some .cell:=e;rw[e'];exact .inl rfl
  .
   have e':scope.names.lookup x=some .free:=e;rw[e',A3];by_cases hq:(NameKind.free==NameKind.free&&X.env.scope.kind==.function&&X.env.kindOf x==some .cell)=true
   . rw[eP hq];exact .inl rfl
   . rw[eQ hq];exact .inr rfl
 .
  rcases e with e |e
  . cases e
  . have e':scope.names.lookup x=some .local:=e;show (scope.names.lookup x==some .local)=true;rw[e'];rfl
section
theorem b9(h:aB X z e g r g'):aB X z e g (norm r) g':=by
 cases r with
 |dat d=>exact h
 |new l=>exact oV h
 |var i=>exact h
theorem Hl(h:aB X z e g r g1)(hd:toD z.bor r g1=some (d,g')):aB X z e g (.dat d) g':=by
 cases r with
 |dat d'=>cases hd;exact h
 |new l=>cases hd;exact oV h
 |var i=>
  have hd:(if i∈z.bor then none else match g1[i]? with |some (.own l)=>some (D.lst l,g1.set i (.dat (.lst l))) |_=>none)=some (d,g'):=hd
  split at hd
  . cases hd
  .
   rename_i hb;split at hd
   . rename_i l hg;cases hd;exact Bm h hg hb
   . cases hd
theorem aQ(hS:nq P rn)(ct:bG P k X c)(hK:z.K=X.K)(hc:Cm P c e x)(h:eV rn z.bor k x g=some (d,g')):aB X z e g (.dat d) g':=by
 unfold eV at h;split at h
 . rename_i r g1 e1;exact Hl (hS.e ct hK hc e1) h
 . cases h
theorem kL:∀(ds:List D),tK (ds.map R.dat)=some ds
 | []=>rfl
 |d::ds=>by
  show (match tK (ds.map R.dat)with |some ds=>some (d::ds) |none=>none)=_
  rw[kL ds]
theorem kM(hS:nq P rn)(ct:bG P k X c)(hK:z.K=X.K):∀{es:List Expr}{xs:List Ex}{g g':G}{ds:List D},CP P c es xs->nk rn z.bor k xs g=some (ds,g')->dF X z es g (ds.map .dat) g'
 |_,_,_,_,_,.nil,h=>by cases h;exact dR
 |_,_,_,_,_,.cons h1 h2,h=>by
  unfold nk at h;split at h
  .
   rename_i d g1 e1;split at h
   . rename_i ds g2 e2;cases h;exact cJ (aQ hS ct hK h1 e1) (kM hS ct hK h2 e2) (h1.star _)
   . cases h
  . cases h
theorem pX(hS:nq P rn)(ct:bG P k X c)(hK:z.K=X.K):∀{es:List Expr}{xs:List Ex}{g g':G}{rs:List R},CP P c es xs->argsR rn z.bor k xs g=some (rs,g')->dF X z es g rs g'
 |_,_,_,_,_,.nil,h=>by cases h;exact dR
 |_,_,_,_,_,.cons h1 h2,h=>by
  unfold argsR at h;split at h
  .
   rename_i r g1 e1;split at h
   .
    rename_i rs g2 e2;cases h;have q:=b9 (hS.e ct hK h1 e1);have q2:=pX hS ct hK h2 e2;cases r with
    |dat d=>exact cJ q q2 (h1.star _)
    |new l=>exact cJ q q2 (h1.star _)
    |var i=>exact Fg q q2 (h1.star _)
   . cases h
  . cases h
theorem jg(h:argsR rn bor k [a,b] g=some (rs,g2)):∃r1 r2 g1,rn.e bor k a g=some (r1,g1)/\rn.e bor k b g1=some (r2,g2)/\rs=[norm r1,norm r2]:=by
 unfold argsR at h;split at h
 .
  rename_i r1 g1 e1;unfold argsR at h;split at h
  .
   rename_i rs' g3 e3;split at e3
   . rename_i r2 g4 e2;unfold argsR at e3;cases e3;cases h;exact⟨r1,r2,g1,e1,e2,rfl⟩
   . cases e3
  . cases h
 . cases h
theorem yK(hS:nq P rn)(ct:bG P k X c)(hK:z.K=X.K):∀{bs:List Expr}{xs:List Ex}{ops:List CmpOp}{g g':G}{d1:D}{b:Bool},CP P c bs xs->DS rn z.bor k d1 ops xs g=some (b,g')->tQ X z d1 ops bs g b g'
 |_,_,[],_,_,_,_,.nil,h=>by cases h
 |_,_,[_],_,_,_,_,.nil,h=>by unfold DS at h;cases h
 |_,_,_::_::_,_,_,_,_,.nil,h=>by unfold DS at h;cases h
 |_,_,[],_,_,_,_,.cons _ _,h=>by unfold DS at h;cases h
 |_,_,[op],_,_,d1,_,.cons h1 .nil,h=>by
  unfold DS at h;split at h
  .
   rename_i d2 g1 e1;split at h
   . rename_i b e2;cases h;exact .last (aQ hS ct hK h1 e1) (pO hK ct.room e2)
   . cases h
  . cases h
 |_,_,op::op'::ops,_,_,d1,_,.cons h1 .nil,h=>by unfold DS at h;cases h
 |_,_,[op],_,_,d1,_,.cons h1 (.cons h2 h3),h=>by unfold DS at h;cases h
 |_,_,op::op'::ops,_,_,d1,_,.cons h1 (.cons h2 h3),h=>by
  unfold DS at h;split at h
  .
   rename_i d2 g1 e1;split at h
   . rename_i e2;exact .link (aQ hS ct hK h1 e1) (pO hK ct.room e2) (yK hS ct hK (.cons h2 h3) h)
   . rename_i e2;cases h;exact .stop (aQ hS ct hK h1 e1) (pO hK ct.room e2)
   . cases h
  . cases h
theorem zT(hS:nq P rn)(ct:bG P k X c)(hK:z.K=X.K):∀{es:List Expr}{xs:List Ex}{g g':G}{r:R},CP P c es xs->G4 rn z.bor k xs g=some (r,g')->aB X z (.BoolOp .And es pos) g r g'
 |_,_,_,_,_,.nil,h=>by cases h
 |_,_,_,_,_,.cons h1 .nil,h=>Ff (hS.e ct hK h1 h)
 |_,_,_,_,_,.cons h1 (.cons h2 h3),h=>by
  unfold G4 at h;split at h
  . rename_i g1 e1;exact Kv (hS.e ct hK h1 e1) (zT hS ct hK (.cons h2 h3) h)
  . rename_i g1 e1;cases h;exact Ku (hS.e ct hK h1 e1)
  . cases h
theorem Ho(hS:nq P rn)(ct:bG P k X c)(hK:z.K=X.K):∀{es:List Expr}{xs:List Ex}{g g':G}{r:R},CP P c es xs->X5 rn z.bor k xs g=some (r,g')->aB X z (.BoolOp .Or es pos) g r g'
 |_,_,_,_,_,.nil,h=>by cases h
 |_,_,_,_,_,.cons h1 .nil,h=>Ff (hS.e ct hK h1 h)
 |_,_,_,_,_,.cons h1 (.cons h2 h3),h=>by
  unfold X5 at h;split at h
  . rename_i g1 e1;exact Rj (hS.e ct hK h1 e1) (Ho hS ct hK (.cons h2 h3) h)
  . rename_i g1 e1;cases h;exact Ri (hS.e ct hK h1 e1)
  . cases h
theorem wj(hS:nq P rn)(ct:bG P k X c)(hK:z.K=X.K):∀{es:List Expr}{xs:List Ex}{g g':G}{b:Bool},CP P c es xs->v5 rn z.bor k xs g=some (b,g')->nL X z (.BoolOp .And es pos) g b g'
 |_,_,_,_,_,.nil,h=>by cases h
 |_,_,_,_,_,.cons h1 .nil,h=>Kq (hS.t ct hK h1 h)
 |_,_,_,_,_,.cons h1 (.cons h2 h3),h=>by
  unfold v5 at h;split at h
  . rename_i g1 e1;exact Ks (hS.t ct hK h1 e1) (wj hS ct hK (.cons h2 h3) h)
  . rename_i g1 e1;cases h;exact Kr (hS.t ct hK h1 e1)
  . cases h
theorem zU(hS:nq P rn)(ct:bG P k X c)(hK:z.K=X.K):∀{es:List Expr}{xs:List Ex}{g g':G}{b:Bool},CP P c es xs->G5 rn z.bor k xs g=some (b,g')->nL X z (.BoolOp .Or es pos) g b g'
 |_,_,_,_,_,.nil,h=>by cases h
 |_,_,_,_,_,.cons h1 .nil,h=>Rf (hS.t ct hK h1 h)
 |_,_,_,_,_,.cons h1 (.cons h2 h3),h=>by
  unfold G5 at h;split at h
  . rename_i g1 e1;exact Rh (hS.t ct hK h1 e1) (zU hS ct hK (.cons h2 h3) h)
  . rename_i g1 e1;cases h;exact Rg (hS.t ct hK h1 e1)
  . cases h
theorem wk(hS:nq P rn)(ct:bG P k X c)(hK:z.K=X.K)(hc:CmO P c e x)(h:zQ rn z.bor k x g=some (o,g')):tR X z e g o g':=by
 cases hc with
 |none=>cases h;exact Bx
 |@some e' x' hc=>
  have h:(match eV rn z.bor k x' g with |some (.int i,g1)=>some (some i,g1) |_=>none)=some (o,g'):=h
  split at h
  . rename_i e1;cases h;exact By (aQ hS ct hK hc e1)
  . cases h
theorem zV(ct:bG P k X c)(h:c.sc.names.lookup x=some .globalImplicit):Gl X x:=ct.qE x h
theorem pY(hS:nq P rn)(ct:bG P k X c)(hK:z.K=X.K)(htp:tp=true->∃es k pos,tg=.Tuple es k pos)(hc:Tw P c iter it)(h:dg rn z.bor k tp it g=some (ao,g')):eH X z tg iter g ao g':=by
 cases hc with
 |nP ha hb' hs' hb hg=>
  unfold dg at h;dsimp only at h;split at h
  .
   rename_i c0 g1 e1;split at h
   .
    rename_i j g2 e2;split at h
    .
     rename_i st g3 e3;split at h
     . rename_i hj;cases h;simp only[v7,c8,b8]at hj;exact Ln (cJ (aQ hS ct hK ha e1) (cJ (aQ hS ct hK hb' e2) (cJ (aQ hS ct hK hs' e3) dR (hs'.star _)) (hb'.star _)) (ha.star _)) (zV ct hg) (ct.md.bn _ hb) (ha.star _) (jt.plain (.cons hb' (.cons hs' .nil))) hj.1 hj.2.1 ⟨hj.2.2.2,hj.2.2.1.2⟩
     . cases h
    . cases h
   . cases h
  . cases h
 |enum ha hb hg=>
  unfold dg at h;dsimp only at h;split at h
  .
   rename_i ht;obtain⟨es,k0,pos,rfl⟩:=htp ht;split at h
   .
    rename_i d g1 e1;split at h
    . rename_i l e2;cases h;exact Lq hK (cJ (aQ hS ct hK ha e1) dR (ha.star _)) e2 (zV ct hg) (ct.md.bn _ hb) (ha.star _)
    . cases h
   . cases h
  . cases h
 |cM ha hb hg=>
  unfold dg at h;dsimp only at h;split at h
  .
   rename_i j g1 e1;split at h
   . rename_i hj;cases h;simp only[Cz,c8,b8]at hj;exact K3 (cJ (aQ hS ct hK ha e1) dR (ha.star _)) (zV ct hg) (ct.md.bn _ hb) (by rw[ha.star];rfl) hj.1 hj.2
   . cases h
  . cases h
 |cO ha hb' hb hg=>
  unfold dg at h;dsimp only at h;split at h
  .
   rename_i c0 g1 e1;split at h
   .
    rename_i j g2 e2;split at h
    . rename_i hj;cases h;simp only[Cz,c8,b8]at hj;exact K4 (cJ (aQ hS ct hK ha e1) (cJ (aQ hS ct hK hb' e2) dR (hb'.star _)) (ha.star _)) (zV ct hg) (ct.md.bn _ hb) (by rw[ha.star,hb'.star];rfl) (by rw[hb'.star];rfl) ⟨hj.1.1,hj.1.2,hj.2.1,hj.2.2⟩
    . cases h
   . cases h
  . cases h
 |seq hc=>
  have h':(match eV rn z.bor k it g with |some (.tup l,g1)=>some (l,g1) |some (.lst l,g1)=>some (l,g1) |some (.fix l,g1)=>some (l,g1) |_=>none)=some (ao,g'):=by cases hc.out <;> exact h
  split at h'
  . rename_i e1;cases h';exact R0 hK (aQ hS ct hK hc e1)
  . rename_i e1;cases h';exact R3 (aQ hS ct hK hc e1)
  . rename_i e1;cases h';exact R5 hK (aQ hS ct hK hc e1)
  . cases h'
theorem ur(hS:nq P rn)(ct:bG P k X c)(hK:z.K=X.K)(hc:yJ P c ifs co)(h:pM rn z.bor k co g=some (b,g')):dI X z ifs g b g':=by
 cases hc with
 |none=>cases h;exact K5
 |some hc=>exact K6 (hS.t ct hK hc h)
theorem wm(h:xA c tg T):T.fL=true->∃es k pos,tg=.Tuple es k pos:=by
 cases h with
 |nm _ _=>intro e;cases e
 |tp _=>intro _;exact⟨_,_,_,rfl⟩
theorem TV(ct:bG P k X c)(h:CJ c es is):kj X es is:=by
 induction h with
 |nil=>exact .nil
 |cons h1 h2 _ ih=>exact .cons (ct.nm h1 h2) ih
theorem rY(ct:bG P k X c)(hK:z.K=X.K)(h:xA c tg T)(hb:∀i∈T.ix,i∉z.bor):gG X z tg T:=by
 cases h with
 |nm h1 h2=>exact Xr (ct.nm h1 h2) (hb _ (i6.mpr rfl))
 |tp h1=>exact Xs ct.calm hK (TV ct h1) hb
theorem uv(hS:nq P rn){Xb:Bk->Cx}{cb:Ct}(Yo:∀b,bG P k (Xb b) cb)(O6:∀b,z.K=(Xb b).K){T:Tg}{last:Nat}{ifs:List Expr}{co:Option Ex}{cN:Expr}{xe:Ex}(hi:yJ P cb ifs co)(he:Cm P cb cN xe) :
  ∀{ao:List D}{g gE:G},yC rn z.bor k T last co xe ao g=some gE->jo T last (λg b g'=>∀bk:Bk,dI (Xb bk) z ifs g b g') (λg d g'=>∀bk:Bk,aB (Xb bk) z cN g (.dat d) g') ao g gE
 | [],_,_,h=>by cases h;exact .nil
 |d::l,_,_,h=>by
  unfold yC at h;split at h
  . cases h
  .
   rename_i g1 e1;split at h
   . cases h
   . rename_i g2 e2;exact .skip e1 (λbk=>ur hS (Yo bk) (O6 bk) hi e2) (uv hS Yo O6 hi he h)
   .
    rename_i g2 e2;split at h
    . cases h
    .
     rename_i x g3 e3;split at h
     .
      rename_i acc e4;split at h
      . rename_i hl;exact .take e1 (λbk=>ur hS (Yo bk) (O6 bk) hi e2) (λbk=>aQ hS (Yo bk) (O6 bk) he e3) e4 hl (uv hS Yo O6 hi he h)
      . cases h
     . cases h
end
structure Yp(P:Pg)(rn:Rn):Prop where
structure Mx(P:Pg)(fi:Fi)(fx:Fx):Prop where
 np:fx.np=fi.ps.length
 n:fx.n=fi.N.length
 body:Hj P ⟨fi.N,aZ fi.st,true,fi.qual⟩ (cC fi.st) fx.body
def pZ(P:Pg)(fns:List Fx):Prop:=∀(f:Nat) (fi:Fi) (fx:Fx),P.fn[f]?=some fi->fns[f]?=some fx->Mx P fi fx
theorem wu{P:Pg}{k:Nat}{prog:Program}{w:World}{K:Frag}{mg:Str->Option Value}{base:Heap}{N ps:List Str}{qual:Str}{scope:Scope}{f:Addr}{fW:Value}{A:Around}{outer:List Env}{s:Shared}{H:Hp}{E:XK}
  (S:fS N ps scope) (md:CG P K mg) (eS:PySem.W.codeIn K fW qual=true) (hr:fX k (A.deeper (envOfC qual scope s⁻¹ f fW))):bG P k (uY Jp prog w K mg base N qual scope f fW A outer s H E).Vk ⟨N,scope,true,qual⟩:=by
 refine⟨rfl,S.nd,λx e=>e,λx e=>e,λx e=>e,λ_ x e=>e,λx _=>rfl,λ_=>?_,rfl,rfl,md,hr,λe h=>⟨by have e:qual = "law" :=e;subst e;rfl,md.lam h _ (by have e:qual = "law" :=e;exact e▸eS)⟩⟩
 show (if scope.kind.isAnnotationScope then ScopeKind.function else scope.kind)=.function
 rw[S.kind];rfl
section
theorem Hq(hS:nq P rn){k':Nat}(ct:bG P (k'+1) X c)(hK:z.K=X.K){f:Nat}{fi:Fi}{fx:Fx}(SM:P.fn[f]?=some fi)(Ea:Mx P fi fx)(Pb:c.sc.names.lookup fi.name=some .globalImplicit){e:Expr}{es:List Expr}{xs:List Ex}{rs:List R}{g g1 gO:G}{r:R}
  (hc:CP P c (e::es) xs) (ha:dF X z (e::es) g rs g1) (h:bO rn fx k' rs g1=some (r,gO)):aB X z (.Call (.Name fi.name p) (e::es) [] pos) g r gO:=by
 obtain⟨f,fd,hm,hF,hSc,hB,Al⟩:=ct.md.fn _ fi SM;have F:qF X.prog X.w X.K X.mg X.base Jp (k'+1) f fd fi.ps (RX X.K fi.N fi.ps.length λbor g r g'=>rn.b bor k' fx.body g=some (.rt r,g')\/(rn.b bor k' fx.body g=some (.nx,g')/\r=.dat .non)):=by
  refine O1 hF hSc λfW A outer s H E eS hr z' g r g' hK' hrun=>?_
  have Yq:bG P k' (uY Jp X.prog X.w X.K X.mg X.base fi.N fi.qual (aZ fi.st) f fW A outer s H E).Vk ⟨fi.N,aZ fi.st,true,fi.qual⟩:=wu hSc ct.md eS hr;rcases hrun with h |⟨h,rfl⟩
  . exact⟨_,hS.b Yq rfl hK' Ea.body h,.inl rfl⟩
  . exact⟨_,hS.b Yq rfl hK' Ea.body h,.inr ⟨rfl,rfl⟩⟩
 have h1:∃h2:CP P c es xs.tail,starEach (e::es) X.env=(false,eval e X.env)::starEach es X.env:=by
  cases hc with
  |cons h1 h2=>exact⟨h2,h1.star _⟩
 obtain⟨h2,fh⟩:=h1;unfold bO at h;split at h
 .
  rename_i hl;split at h
  . cases h
  .
   rename_i gs e1;split at h
   .
    rename_i r0 gc e2;split at h
    .
     rename_i gO' e3;split at h
     . rename_i r' e4;cases h;exact zA F hK ct.room (ct.qE _ Pb) hm hF.kp hB ha (by rw[hl.1,Ea.np]) e1 hl.2 (.inl (by rw[<- Ea.n];exact e2)) e3 e4 Al fh h2.plain
     . cases h
    . cases h
   .
    rename_i gc e2;split at h
    . rename_i gO' e3;cases h;exact zA F hK ct.room (ct.qE _ Pb) hm hF.kp hB ha (by rw[hl.1,Ea.np]) e1 hl.2 (.inr ⟨by rw[<- Ea.n];exact e2,rfl⟩) e3 rfl Al fh h2.plain
    . cases h
   . cases h
 . cases h
theorem wz(hS:nq P rn)(ct:bG P k X c)(hK:z.K=X.K)
  (hnd:N'.Nodup) (hT:xA ⟨N',scope,false,Str.empty⟩ tg T) (kN:∀i∈T.ix,c.N.length<=i/\i<c.N.length+kk) (hi:Tw P c iter it) (hf:yJ P ⟨N',scope,false,Str.empty⟩ ifs co) (he:Cm P ⟨N',scope,false,Str.empty⟩ cN xe)
  (h:fM rn z.bor k c.N.length kk T it co xe g=some (acc,g')) :
  ∃ao g1 gE,eH X z tg iter g ao g1/\(∀b:Bk,gG (X.blk N' scope b) z tg T)/\(∀i∈T.ix,g1.length<=i/\i<g1.length+kk)/\
   jo T (g1.length+kk) (λg b g'=>∀bk:Bk,dI (X.blk N' scope bk) z ifs g b g') (λg d g'=>∀bk:Bk,aB (X.blk N' scope bk) z cN g (.dat d) g') ao (gC kk g1) gE/\gE[g1.length+kk]?=some (.own acc)/\g'=gE.take g1.length:=by
 unfold fM at h;split at h
 . cases h
 .
  rename_i ao g1 e1;split at h
  .
   rename_i hl;split at h
   . cases h
   .
    rename_i gE e2;split at h
    .
     rename_i acc' e3;cases h;obtain⟨hl,hb⟩:=hl;rw[<- hl]at e2 e3 kN ⊢
     refine⟨ao,g1,gE,pY hS ct hK (wm hT) hi e1,λb=>rY (ct.blk hnd b) hK hT λi hi hm=>?_,kN,uv hS (λb=>ct.blk hnd b) (λb=>hK) hf he e2,e3,rfl⟩
     rw[List.any_eq_false]at hb;exact hb i hi (lL hm)
    . cases h
  . cases h
theorem Hr(hS:nq P rn)(ct:bG P k X c)(hK:z.K=X.K){vx:Expr}{Pn:List Expr}{scope:Scope}{N':List Str}{T:Tg}{xv:Ex}{ks:List Ex}{kk:Nat}{kp:Pos}(hnd:N'.Nodup)
  (hk:CP P ⟨N',scope,false,Str.empty⟩ Pn ks) (hv:Cm P ⟨N',scope,false,Str.empty⟩ vx xv):∀{ao:List D}{ka:List (List Int)}{da:List D}{g gE:G}{p:List (List Int)×List D},S2 rn z.bor k T ks xv ao ka da g=some (p,gE)->
  tV T (λg ns g'=>∀bk:Bk,yt (X.blk N' scope bk) z (.Tuple Pn kk kp) g ns g') (λg d g'=>∀bk:Bk,aB (X.blk N' scope bk) z vx g (.dat d) g') ao ka da g p.1 p.2 gE
 | [],_,_,_,_,_,h=>by cases h;exact .nil
 |d::l,ka,_,_,_,_,h=>by
  unfold S2 at h;split at h
  . cases h
  .
   rename_i g1 e0;split at h
   . cases h
   .
    rename_i m g2 e1;split at h
    . cases h
    .
     rename_i ns e2;split at h
     . cases h
     .
      rename_i x g3 e3;split at h
      .
       rename_i hc;obtain⟨h1,h2,h3⟩:=hc;have h1:=aq h1;refine .cons e0 (λbk=>Sy (kM hS (ct.blk hnd bk) hK hk e1) (kL _) e2 h3) (λbk=>aQ hS (ct.blk hnd bk) hK hv e3) (λhm=>?_) h2 (aq h1.2).1 (aq h1.2).2 (Hr hS ct hK hnd hk hv h)
       have:=eJ.mp h1.1 ns hm;simp at this
      . cases h
theorem CT(hS:nq P rn)(ct:bG P k X c)(hK:z.K=X.K){tg iter vx:Expr}{Pn:List Expr}{scope:Scope}{N':List Str}{kk kt:Nat}{kp:Pos}{T:Tg}{it xv:Ex}{ks:List Ex}{g g':G}{p:List (List Int)×List D}
  (hnd:N'.Nodup) (hT:xA ⟨N',scope,false,Str.empty⟩ tg T) (kN:∀i∈T.ix,c.N.length<=i/\i<c.N.length+kk) (hi:Tw P c iter it) (hk:CP P ⟨N',scope,false,Str.empty⟩ Pn ks) (hv:Cm P ⟨N',scope,false,Str.empty⟩ vx xv)
  (h:pN rn z.bor k c.N.length kk T it ks xv g=some (p,g')) :
  ∃ao g1 gE,eH X z tg iter g ao g1/\(∀b:Bk,gG (X.blk N' scope b) z tg T)/\(∀i∈T.ix,g1.length<=i/\i<g1.length+kk)/\
   tV T (λg ns g'=>∀bk:Bk,yt (X.blk N' scope bk) z (.Tuple Pn kt kp) g ns g') (λg d g'=>∀bk:Bk,aB (X.blk N' scope bk) z vx g (.dat d) g') ao [] [] (gD kk g1) p.1 p.2 gE/\g'=gE.take g1.length:=by
 unfold pN at h;split at h
 . cases h
 .
  rename_i ao g1 e1;split at h
  .
   rename_i hl;split at h
   . cases h
   .
    rename_i q gE e2;cases h;obtain⟨hl,hb⟩:=hl;rw[<- hl]at kN ⊢
    refine⟨ao,g1,gE,pY hS ct hK (wm hT) hi e1,λb=>rY (ct.blk hnd b) hK hT λi hi hm=>?_,kN,Hr hS ct hK hnd hk hv e2,rfl⟩
    rw[List.any_eq_false]at hb;exact hb i hi (lL hm)
  . cases h
theorem uw(hS:nq P rn)(ct:bG P k X c)(hK:z.K=X.K)(hnd:N'.Nodup)(hT:xA ⟨N',scope,false,Str.empty⟩ tg T)(hf1:yJ P ⟨N',scope,false,Str.empty⟩ f1 c1)
  (hi:Tw P ⟨N',scope,false,Str.empty⟩ iter it) (hf:yJ P ⟨N',scope,false,Str.empty⟩ ifs co) (he:Cm P ⟨N',scope,false,Str.empty⟩ cN xe):∀{ao:List D}{g gE:G},v8 rn z.bor k T1 c1 T it co xe last ao g=some gE->
  gY T1 (λg b g'=>∀bk:Bk,dI (X.blk N' scope bk) z f1 g b g') (yp X z N' scope tg iter cN ifs T last) ao g gE
 | [],_,_,h=>by cases h;exact .nil
 |d::l,_,_,h=>by
  unfold v8 at h;split at h
  . cases h
  .
   rename_i g1 e1;split at h
   . cases h
   . rename_i g2 e2;exact .skip e1 (λbk=>ur hS (ct.blk hnd bk) hK hf1 e2) (uw hS ct hK hnd hT hf1 hi hf he h)
   .
    rename_i g2 e2;split at h
    . cases h
    .
     rename_i items2 g3 e3;split at h
     . cases h
     . rename_i g4 e4;exact .take e1 (λbk=>ur hS (ct.blk hnd bk) hK hf1 e2) ⟨items2,g3,λbk=>pY hS (ct.blk hnd bk) hK (wm hT) hi e3,uv hS (λb=>ct.blk hnd b) (λb=>hK) hf he e4⟩ (uw hS ct hK hnd hT hf1 hi hf he h)
theorem rZ(hS:nq P rn)(ct:bG P k X c)(hK:z.K=X.K)
  (hnd:N'.Nodup) (hT1:xA ⟨N',scope,false,Str.empty⟩ t1 T1) (hT:xA ⟨N',scope,false,Str.empty⟩ tg T) (Yr:∀i∈T1.ix,c.N.length<=i/\i<c.N.length+kk) (kN:∀i∈T.ix,c.N.length<=i/\i<c.N.length+kk) (hi1:Tw P c i1 j3) (hf1:yJ P ⟨N',scope,false,Str.empty⟩ f1 c1) (hi:Tw P ⟨N',scope,false,Str.empty⟩ iter it) (hf:yJ P ⟨N',scope,false,Str.empty⟩ ifs co) (he:Cm P ⟨N',scope,false,Str.empty⟩ cN xe)
  (h:jP rn z.bor k c.N.length kk T1 j3 c1 T it co xe g=some (acc,g')) :
  ∃ao g1 gE,eH X z t1 i1 g ao g1/\(∀b:Bk,gG (X.blk N' scope b) z t1 T1)/\(∀b:Bk,gG (X.blk N' scope b) z tg T)/\(∀i∈T1.ix,g1.length<=i/\i<g1.length+kk)/\(∀i∈T.ix,g1.length<=i/\i<g1.length+kk)/\
   gY T1 (λg b g'=>∀bk:Bk,dI (X.blk N' scope bk) z f1 g b g') (yp X z N' scope tg iter cN ifs T (g1.length+kk)) ao (gC kk g1) gE/\gE[g1.length+kk]?=some (.own acc)/\g'=gE.take g1.length:=by
 unfold jP at h;split at h
 . cases h
 .
  rename_i ao g1 e1;split at h
  .
   rename_i hl;split at h
   . cases h
   .
    rename_i gE e2;split at h
    .
     rename_i acc' e3;cases h;obtain⟨hl,hb⟩:=hl;rw[<- hl]at e2 e3 kN Yr ⊢
     rw[List.any_eq_false]at hb;exact⟨ao,g1,gE,pY hS ct hK (wm hT1) hi1 e1,λb=>rY (ct.blk hnd b) hK hT1 λi hi hm=>hb i (pE _ hi) (lL hm),λb=>rY (ct.blk hnd b) hK hT λi hi hm=>hb i (gN _ hi) (lL hm),Yr,kN,uw hS ct hK hnd hT hf1 hi hf he e2,e3,rfl⟩
    . cases h
  . cases h
end
section
variable{X:Cx}{c:Ct}
theorem TX(ct:bG P k X c){es:List Expr}{ns:List String}(h:G8 P c es ns):zB X es ns/\∀n∈ns,n∈v9:=by
 induction h with
 |nil=>exact⟨.nil,λn hn=>nomatch hn⟩
 |@cons T n pos es ns h1 h2 h3 h4 _ ih=>
  refine⟨.cons ?_ ih.1,λm hm=>(dS.mp hm).elim (λe=>e▸h4) (ih.2 m)⟩
  subst h3;refine⟨ct.qE _ h2,ct.md.bn _ h1,?_,?_,?_⟩ <;> (unfold v9 at h4;simp only[dS,l8,AB]at h4;rcases h4 with rfl |rfl |rfl |rfl |rfl |rfl <;> first |rfl |decide)
theorem Hs{e:Expr}{g g1:G}{r:R}{d:D}(h:aB X z e g r g1)(hp:pk r g1=some d)(hs:starEach [e] X.env=(false,eval e X.env)::starEach [] X.env):dF X z [e] g [r] g1:=by
 cases r with
 |dat d=>exact cJ h dR hs
 |new l=>cases hp
 |var i=>exact Fg h dR hs
theorem ux{e:Expr}{x:Ex}{bQ:Pos}(hc:Cm P c e x):((backTo bQ (starEach [e] X.env)).all (λx=>!x.1)&&(backToKw bQ (keywordEach [] X.env)).all (λx=>x.1.isSome)
   && decide ([e].length+([]:List Keyword).length+(if ([]:List Keyword).isEmpty then 0 else 1)<30))=true:=by
 rw[hc.star];rfl
theorem Cm.attr{e:Expr}{x:Ex}{env:Env}(h:Cm P c e x)(m:Str):attributeBase e m env (eval e env)=eval e env:=by cases h.out <;> rfl
def Ys(X:Cx)(z:Z)(e:Expr)(g:G)(o:Option (R×G)):Prop:=∀r g',o=some (r,g')->aB X z e g r g'
theorem Ys.none{e:Expr}{g:G}:Ys X z e g none:=λ_ _ h=>nomatch h
theorem Ys.some{e:Expr}{g g':G}{r:R}(h:aB X z e g r g'):Ys X z e g (some (r,g')):=λ_ _ q=>by cases q;exact h
theorem My(hS:nq P rn)(hX:Yp P rn){fns:List Fx}(hF:pZ P fns)(ct:bG P k X c)(hK:z.K=X.K){e:Expr}{x:Ex}{g:G}(hc:Cm P c e x):Ys X z e g (bx rn z.bor k fns x g):=by
 cases hc.out with
 |int=>exact .some (Q5)
 |bool=>exact .some (Xf)
 |none=>exact .some (Q6)
 |str=>exact .some (Q7)
 |var h1 h2 h3=>
  obtain⟨hd,eS⟩:=cu h3;unfold bx;dsimp only;split
  . rename_i e1;exact .some (Q8 (by rw[ct.N];exact h1) (ct.vis h2) hd eS e1)
  . rename_i e1;exact .some (Ko (by rw[ct.N];exact h1) (ct.vis h2) hd eS e1)
  . exact .none
 |glob h1 h2=>obtain⟨hd,v,u,q1,q2,q3⟩:=ct.md.ct _ _ h1;exact .some (Kp (ct.qE _ h2) q1 q2 (hK▸q3) hd)
 |bin h1 h2=>
  unfold bx;dsimp only;split
  .
   rename_i r1 r2 g2 e1;obtain⟨s1,s2,g1,q1,q2,q3⟩:=jg e1;cases q3;split
   .
    rename_i d1 d2 p1 p2;split
    . rename_i r0 e3;exact .some (Q9 (b9 (hS.e ct hK h1 q1)) (b9 (hS.e ct hK h2 q2)) p1 p2 (S6 hK e3))
    . exact .none
   . exact .none
  . exact .none
 |cmp h1 h2 h3=>
  unfold bx;dsimp only;split
  .
   rename_i r1 r2 g2 e1;obtain⟨s1,s2,g1,q1,q2,q3⟩:=jg e1;cases q3;split
   .
    rename_i d1 d2 p1 p2;split
    . rename_i r0 e3;exact .some (Ra (b9 (hS.e ct hK h1 q1)) (b9 (hS.e ct hK h2 q2)) p1 p2 (pO hK ct.room e3) h3)
    . exact .none
   . exact .none
  . exact .none
 |chain h1 h2 h3=>
  unfold bx;dsimp only;split
  .
   rename_i d1 g1 e1;split
   . rename_i b g2 e2;exact .some (Ga (aQ hS ct hK h1 e1) (yK hS ct hK h2 e2) h3)
   . exact .none
  . exact .none
 |neg h1=>
  unfold bx;dsimp only;split
  . rename_i i g1 e1;exact .some (Xh (aQ hS ct hK h1 e1) rfl Rz)
  . exact .none
 |not h1=>
  unfold bx;dsimp only;split
  . rename_i b g1 e1;exact .some (Rk (hS.e ct hK h1 e1))
  . exact .none
 |and h1=>exact λ_ _ h=>zT hS ct hK h1 h
 |or h1=>exact λ_ _ h=>Ho hS ct hK h1 h
 |ite h1 h2 h3=>
  unfold bx;dsimp only;split
  . rename_i g1 e1;exact λ_ _ h=>Rl (hS.t ct hK h1 e1) (hS.e ct hK h2 h)
  . rename_i g1 e1;exact λ_ _ h=>Rm (hS.t ct hK h1 e1) (hS.e ct hK h3 h)
  . exact .none
 |tup h1=>
  unfold bx;dsimp only;split
  .
   rename_i ds g1 e1;split
   . rename_i hl;exact .some (Ro (kM hS ct hK h1 e1) (kL _) hl)
   . exact .none
  . exact .none
 |lst h1=>
  unfold bx;dsimp only;split
  .
   rename_i ds g1 e1;split
   . rename_i hl;exact .some (Rp (kM hS ct hK h1 e1) (kL _) hl)
   . exact .none
  . exact .none
 |ix h1 h2=>
  unfold bx;dsimp only;split
  .
   rename_i r1 r2 g2 e1;obtain⟨s1,s2,g1,q1,q2,q3⟩:=jg e1;cases q3;split
   .
    rename_i d1 d2 p1 p2;split
    . rename_i r0 e3;exact .some (Xg (b9 (hS.e ct hK h1 q1)) (b9 (hS.e ct hK h2 q2)) p1 p2 (S7 hK (by have:=ct.room.units;lia) e3) h2.Mw)
    . exact .none
   . exact .none
  . exact .none
 |slice h1 h2 h3=>
  unfold bx;dsimp only;split
  .
   rename_i r0 g1 e1;have q:=b9 (hS.e ct hK h1 e1);split
   .
    rename_i i g2 e2;have q2:=wk hS ct hK h2 e2;split
    .
     rename_i j g3 e3;have q3:=wk hS ct hK h3 e3;split
     . rename_i l e4;rw[e4]at q;exact .some (BK hK q q2 q3)
     . rename_i l e4;rw[e4]at q;exact .some (BJ hK q q2 q3)
     .
      split
      . rename_i e5;exact .some (BG (d:=.non) hK q q2 q3 e5)
      . exact .none
    . exact .none
   . exact .none
  . exact .none
 |call h1 h2 h3 h4=>
  subst h2;unfold bx;dsimp only;split
  .
   rename_i fx k' Yq Ea;split
   . rename_i rs g1 e1;exact λ_ _ h=>Hq hS ct hK h1 (hF _ _ _ h1 Ea) h3 h4 (pX hS ct hK h4 e1) h
   . exact .none
  . exact .none
 |@blt x b e es xs p pos h1 h2 h3 h4=>
  unfold bx;dsimp only;split
  .
   rename_i rs g1 e1;split
   .
    rename_i ds e2;split
    .
     rename_i r0 e3;have ha:=pX hS ct hK h4 e1;have eS:=S9 hK ct.calm (by have:=ct.room.units;lia) e3
     have fh:starEach (e::es) X.env=(false,eval e X.env)::starEach es X.env:=by cases h4 with |cons h _=>exact h.star _
     have jw:(backTo pos (starEach es X.env)).any (·.1)=false:=by cases h4 with |cons _ h=>exact h.plain
     subst h1;cases b with
     |len=>exact .some (fH ha e2 eS (ct.qE _ h3) (ct.md.bn _ h2) rfl ⋯ ⋯ fh jw)
     |list=>exact .some (lI ha e2 eS (ct.qE _ h3) (ct.md.bn _ h2) rfl ⋯ ⋯ fh jw)
     |tuple=>exact .some (lI ha e2 eS (ct.qE _ h3) (ct.md.bn _ h2) rfl ⋯ ⋯ fh jw)
     |max=>exact .some (fH ha e2 eS (ct.qE _ h3) (ct.md.bn _ h2) rfl ⋯ ⋯ fh jw)
     |min=>exact .some (fH ha e2 eS (ct.qE _ h3) (ct.md.bn _ h2) rfl ⋯ ⋯ fh jw)
     |str=>exact .some (lI ha e2 eS (ct.qE _ h3) (ct.md.bn _ h2) rfl ⋯ ⋯ fh jw)
     |all=>exact .some (fH ha e2 eS (ct.qE _ h3) (ct.md.bn _ h2) rfl ⋯ ⋯ fh jw)
     |any=>exact .some (fH ha e2 eS (ct.qE _ h3) (ct.md.bn _ h2) rfl ⋯ ⋯ fh jw)
     |sorted=>exact .some (fH ha e2 eS (ct.qE _ h3) (ct.md.bn _ h2) rfl ⋯ ⋯ fh jw)
     |sum=>exact .some (fH ha e2 eS (ct.qE _ h3) (ct.md.bn _ h2) rfl ⋯ ⋯ fh jw)
    . exact .none
   . exact .none
  . exact .none
 |@pL a xa T n p pT pos h1 h2 h3 h4 h5 h6 h7=>
  unfold bx;dsimp only;split
  .
   rename_i r0 g1 e1;split
   .
    rename_i d e2;obtain⟨t1,_⟩:=TX ct (G8.cons (pos:=pT) h4 h5 h6 h7 .nil);cases t1 with
    |cons t1 _=>exact .some (RL hK (b9 (hS.e ct hK h1 e1)) e2 (λ_ _ _ p=>G7 p h7) (ct.qE _ h3) (ct.md.bn _ h2) rfl t1.gl t1.mg t1.bt t1.nn t1.db (h1.star _))
   . exact .none
  . exact .none
 |comp h1 h2 h3 h4 h5 h6 h7 h8=>
  unfold bx;dsimp only;split
  . rename_i acc g1 e1;obtain⟨ao,g1,gE,w1,w2,w3,w4,w5,rfl⟩:=wz hS ct hK h3 h4 h5 h6 h7 h8 e1;exact .some (K8 (jf ct h1) ct.calm (by rw[ct.N];exact fD h2) w1 w2 w3 w4 w5 λy=>h6.folded y)
  . exact .none
 |iF h1 h2 h3 h4 h5 h6 h7 h8=>
  unfold bx;dsimp only;split
  . rename_i p g1 e1;obtain⟨ao,g1,gE,w1,w2,w3,w4,rfl⟩:=CT hS ct hK h3 h4 h5 h6 h7 h8 e1;exact .some (GR (jf ct h1) ct.calm ct.room.Qx (by rw[ct.N];exact fD h2) w1 w2 w3 w4 λy=>h6.folded y)
  . exact .none
 |bN h1 h2 h3 h4 h4' h5 h5' h6 h7 h8 h9 h10=>
  unfold bx;dsimp only;split
  . rename_i acc g1 e1;obtain⟨ao,g1,gE,w1,w2,w3,w4,w5,w6,w7,rfl⟩:=rZ hS ct hK h3 h4 h4' h5 h5' h6 h7 h8 h9 h10 e1;exact .some (GF (jf ct h1) ct.calm (by rw[ct.N];exact fD h2) w1 w2 w3 w4 w5 w6 w7 (λy=>h6.folded y) λb y=>h8.folded y)
  . exact .none
 |@cU a xa lp p rp pos h1 h2 h3 h4 h5=>
  unfold bx;dsimp only;split
  .
   rename_i j g1 e1;split
   .
    rename_i hj;obtain⟨hj,hl⟩:=hj;simp only[Cz,c8,b8]at hj;have q:=vB (z:=z) (lp:=lp) (pos:=pos) (rg_1 (p:=p) (rp:=rp) (cJ (aQ hS ct hK h1 e1) dR (h1.star _)) (ct.qE _ h3) (ct.md.bn _ h2) (h1.star _)) ct.calm (ct.qE _ h5) (ct.md.bn _ h4) rfl ⟨by lia,by lia,hj.1,hj.2⟩ (by rw[Int.sub_zero];exact hl)
    rw[Int.sub_zero]at q;exact .some (q)
   . exact .none
  . exact .none
 |fU h1 Vq h2 h3 h4 h5=>
  unfold bx;dsimp only;split
  .
   rename_i c0 g1 e1;split
   .
    rename_i j g2 e2;split
    . rename_i hj;obtain⟨hc,hj,hl⟩:=hj;simp only[Cz,c8,b8]at hj hc;exact .some (vB (rg_2 (cJ (aQ hS ct hK h1 e1) (cJ (aQ hS ct hK Vq e2) dR (Vq.star _)) (h1.star _)) (ct.qE _ h3) (ct.md.bn _ h2) (by rw[h1.star,Vq.star];rfl) (Vq.star _)) ct.calm (ct.qE _ h5) (ct.md.bn _ h4) rfl ⟨hc.1,hc.2,hj.1,hj.2⟩ hl)
    . exact .none
   . exact .none
  . exact .none
 |iG h1 h2 h3=>
  unfold bx;dsimp only;split
  .
   rename_i r0 g1 e1;split
   .
    rename_i d e2;split
    .
     rename_i l e3;split
     .
      rename_i ns e4;split
      . rename_i hl;exact .some (yg hK (Hs (b9 (hS.e ct hK h1 e1)) e2 (h1.star _)) e2 e3 e4 hl (ct.qE _ h3) (ct.md.bn _ h2) (h1.star _))
      . exact .none
     . exact .none
    . exact .none
   . exact .none
  . exact .none
 |meth h1 h2 h3 h4=>
  subst h3;unfold bx;dsimp only;split
  .
   rename_i r0 g1 e1;split
   .
    rename_i d e2;split
    .
     rename_i l e3;split
     .
      rename_i r1 g2 e4;split
      .
       rename_i d0 d1 p0 p1;split
       . rename_i x e5;obtain⟨q1,q2,q3⟩:=L7 e3 (L8 (m:=_) e2 p0);exact .some (Lk hK q1 q2 q3 (b9 (hS.e ct hK h1 e1)) e2 e3 (Hs (b9 (hS.e ct hK h2 e4)) p1 (h2.star _)) p0 p1 (Td hK ct.room e5) (h1.attr _) (ux h2) h4 (h2.star _))
       . exact .none
      . exact .none
     . exact .none
    . exact .none
   . exact .none
  . exact .none
 |append h1 h2 h3 h4 h5=>
  obtain⟨hd,eS⟩:=cu h3;unfold bx;dsimp only;split
  .
   rename_i l0 e0;split
   .
    rename_i d g1 e1;split
    .
     rename_i l e2;split
     . rename_i hl;exact .some (Bt (by rw[ct.N];exact h1) (ct.vis h2) hd eS e0 (cJ (aQ hS ct hK h4 e1) dR (h4.star _)) e2 hl rfl (ux h4) h5 (h4.star _))
     . exact .none
    . exact .none
   . exact .none
  . exact .none
 |extend h1 h2 h3 h4 h5=>
  obtain⟨hd,eS⟩:=cu h3;unfold bx;dsimp only;split
  .
   rename_i l0 e0;split
   .
    rename_i d g1 e1;split
    .
     rename_i l e2;split
     . rename_i hl;exact .some (BL (by rw[ct.N];exact h1) (ct.vis h2) hd eS e0 (cJ (aQ hS ct hK h4 e1) dR (h4.star _)) e2 hl rfl (ux h4) h5 (h4.star _))
     . exact .none
    . exact .none
   . exact .none
  . exact .none
 |gZ h1 h2 h3 h4 h5=>
  obtain⟨hd,eS⟩:=cu h3;unfold bx;dsimp only;split
  .
   rename_i l0 e0;split
   .
    rename_i j g1 e1;split
    .
     rename_i l e2;split
     .
      rename_i n e3;split
      .
       rename_i d e4;split
       . rename_i hl;exact .some (FP (by rw[ct.N];exact h1) (ct.vis h2) hd eS e0 (cJ (aQ hS ct hK h4 e1) dR (h4.star _)) e2 e3 e4 hl rfl (ux h4) h5 (h4.star _))
       . exact .none
      . exact .none
     . exact .none
    . exact .none
   . exact .none
  . exact .none
theorem Ht(hS:nq P rn)(hX:Yp P rn){fns:List Fx}(hF:pZ P fns)(ct:bG P k X c)(hK:z.K=X.K){e:Expr}{x:Ex}{g g':G}{r:R}(hc:Cm P c e x)(h:bx rn z.bor k fns x g=some (r,g')):aB X z e g r g':=My hS hX hF ct hK hc r g' h
end
section
theorem Hu(hS:nq P rn)(ct:bG P k X c)(hK:z.K=X.K){e:Expr}{x:Ex}{g g':G}{b:Bool}(hc:Cm P c e x)(h:stepT rn z.bor k x g=some (b,g')):dM X z e g b g':=by
 have plain:(match rn.e z.bor k x g with |some (r,g1)=>(match pk (norm r) g1 with |some d=>(match Ld d with |some c=>some (c,g1) |none=>none) |none=>none) |none=>none)=some (b,g')->
   (∀whole,isTrue e X.env whole=(do let v <- whole;standAt e.pos;holding [v] (truthy v)))->dM X z e g b g':=by
  intro h he;split at h
  .
   rename_i r g1 e1;split at h
   .
    rename_i d e2;split at h
    . rename_i b' e3;cases h;exact Ge hK (b9 (hS.e ct hK hc e1)) e2 e3 he
    . cases h
   . cases h
  . cases h
 cases hc.out with
 |int=>exact plain h λ_=>rfl
 |bool=>exact plain h λ_=>rfl
 |none=>exact plain h λ_=>rfl
 |str=>exact plain h λ_=>rfl
 |var h1 h2 h3=>exact plain h λ_=>rfl
 |glob h1 h2=>exact plain h λ_=>rfl
 |bin h1 h2=>exact plain h λ_=>rfl
 |cmp h1 h2 h3=>
  unfold stepT at h;dsimp only at h;split at h
  .
   rename_i r1 r2 g2 e1;obtain⟨s1,s2,g1,q1,q2,q3⟩:=jg e1;cases q3;split at h
   .
    rename_i d1 d2 p1 p2;split at h
    . rename_i r0 e3;cases h;exact Rb (b9 (hS.e ct hK h1 q1)) (b9 (hS.e ct hK h2 q2)) p1 p2 (pO hK ct.room e3) h3
    . cases h
   . cases h
  . cases h
 |chain h1 h2 h3=>
  unfold stepT at h;dsimp only at h;split at h
  . rename_i d1 g1 e1;exact Gb (aQ hS ct hK h1 e1) (yK hS ct hK h2 h) h3
  . cases h
 |neg h1=>exact plain h λ_=>rfl
 |not h1=>
  unfold stepT at h;dsimp only at h;split at h
  . rename_i b' g1 e1;cases h;exact Rc (hS.t ct hK h1 e1)
  . cases h
 |and h1=>exact (wj hS ct hK h1 h).tr
 |or h1=>exact (zU hS ct hK h1 h).tr
 |ite h1 h2 h3=>cases h
 |tup h1=>exact plain h λ_=>rfl
 |lst h1=>exact plain h λ_=>rfl
 |ix h1 h2=>exact plain h λ_=>rfl
 |slice h1 h2 h3=>exact plain h λ_=>rfl
 |call h1 h2 h3 h4=>exact plain h λ_=>rfl
 |blt h1 h2 h3 h4=>exact plain h λ_=>rfl
 |pL h1 h2 h3 h4 h5 h6 h7=>exact plain h λ_=>rfl
 |bN h1 h2 h3 h4 h5 h6 h7 h8 h9 h10 h11 h12=>exact plain h λ_=>rfl
 |comp h1 h2 h3 h4 h5 h6 h7 h8=>exact plain h λ_=>rfl
 |iF h1 h2 h3 h4 h5 h6 h7 h8=>exact plain h λ_=>rfl
 |cU h1 h2 h3 h4 h5=>exact plain h λ_=>rfl
 |fU h1 Vq h2 h3 h4 h5=>exact plain h λ_=>rfl
 |iG h1 h2 h3=>exact plain h λ_=>rfl
 |meth h1 h2 h3 h4=>exact plain h λ_=>rfl
 |append h1 h2 h3 h4 h5=>exact plain h λ_=>rfl
 |extend h1 h2 h3 h4 h5=>exact plain h λ_=>rfl
 |gZ h1 h2 h3 h4 h5=>exact plain h λ_=>rfl
theorem uy(ct:bG P k X c):PassesOwn (model X.prog X.w) X.A X.env X.xe:=by rw[ct.xe];exact PassesOwn.never
theorem qc{T:Tg}{body:List Stmt}{b:G->Option (Fl×G)}(hb:∀{g g':G}{f:Fl},b g=some (f,g')->fJ X z body g f g'):∀{ao:List D}{g g':G}{f:Fl},eK T b ao g=some (f,g')->fK X z body T ao g f g'
 | [],_,_,_,h=>by cases h;exact .nil
 |d::l,_,_,_,h=>by
  unfold eK at h;split at h
  . cases h
  .
   rename_i g0 e0;split at h
   . cases h
   . rename_i g1 e1;exact .next e0 (hb e1) (qc hb h)
   . rename_i g1 e1;exact .cont e0 (hb e1) (qc hb h)
   . rename_i g1 e1;cases h;exact .brk e0 (hb e1)
   . rename_i g1 e1;cases h;exact .ret e0 (hb e1)
theorem yL{ce:Expr}{body:List Stmt}{t:G->Option (Bool×G)}{b:G->Option (Fl×G)}(ht:∀{g g':G}{v:Bool},t g=some (v,g')->dM X z ce g v g')(hb:∀{g g':G}{f:Fl},b g=some (f,g')->fJ X z body g f g') :
  ∀{n:Nat}{g g':G}{f:Fl},DT t b n g=some (f,g')->nM X z ce body n g f g'
 | 0,_,_,_,h=>by cases h
 |n+1,_,_,_,h=>by
  unfold DT at h;split at h
  . cases h
  . rename_i g1 e1;cases h;exact .done (ht e1)
  .
   rename_i g1 e1;split at h
   . cases h
   . rename_i g2 e2;exact .next (ht e1) (hb e2) (yL ht hb h)
   . rename_i g2 e2;exact .cont (ht e1) (hb e2) (yL ht hb h)
   . rename_i g2 e2;cases h;exact .brk (ht e1) (hb e2)
   . rename_i g2 e2;cases h;exact .ret (ht e1) (hb e2)
theorem kO{P:Pg}{c:Ct}{e:Expr}{x:Ex}(h:Cm P c e x)(hn:kJ (λ_ _=>true) e=false)(t:Option Expr)(l:Nat)(env:Env):swapsWith e t l env=pure false:=by have hs:=h.CQ;cases e <;> first |rfl |exact Bool.noConfusion (show true=false from hn) |exact Bool.noConfusion (show false=true from hs)
theorem kP(ct:bG P k X c)(mO:c.df=true){a:Expr}{b:List Comprehension}{s:Scope}{p py:Pos}{y:Str}{l:Nat}(hl:fO c y=true):swapsWith (.ListComp a b s p) (some (.Name y py)) l X.env=pure (DW c y py p s):=by
 show (pure (X.env.blockKind==.function&&X.env.kindOf y==some .local&&py.line==(Expr.ListComp a b s p).pos.line&&!(s.names.any λ(n,k)=>n==y&&(k==.local||k==.cell))):Sem Bool)=_
 rw[ct.bk mO];have e:(X.env.kindOf y==some .local)=(c.sc.names.lookup y==some .local):=by
  unfold fO at hl;split at hl
  . rename_i e;rw[e];show (X.env.scope.names.lookup y==_)=_;rw[ct.VG y e]
  . rename_i e;rw[e];show (X.env.scope.names.lookup y==_)=_;rw[ct.cel mO y e]
  . cases hl
 rw[e];rfl
theorem CV(ct:bG P k X c)(mO:c.df=true){e:Expr}{x:Ex}{y:Str}{py:Pos}{l:Nat}(hl:fO c y=true)(h:Cm P c e x)(hn:kJ (λs p=>DW c y py p s) e=false):swapsWith e (some (.Name y py)) l X.env=pure false:=by have hs:=h.CQ;cases e <;> first |rfl |exact Bool.noConfusion (show true=false from hn) |exact Bool.noConfusion (show false=true from hs) | (rw[kP ct mO hl];exact congrArg pure hn)
theorem Hv{e:Expr}{xe:Ex}{x y:Str}{ix iy:Expr}{pn Gw cg iC pt:Pos}{kt:Nat}{env:Env}(h:Cm P c e xe):swappedStores [.Tuple [.Subscript (.Name x pn) ix cg,.Subscript (.Name y Gw) iy iC] kt pt] e env=pure none:=by
 have hs:=h.CQ;cases e with
 |Tuple es k p=>
  show (if _ then _ else _:Sem (Option (List Str)))=_
  split
  . rfl
  .
   split
   . rfl
   . exact eP rfl
 |_=>first |rfl |exact Bool.noConfusion (show false=true from hs)
theorem yM{x:Str}{pn cg:Pos}{ix:Expr}{xi:Ex}{X:Cx}(h:Cm P c ix xi):∀v,assign (.Subscript (.Name x pn) ix cg) X.env v=(do
   let ov <- holding [v] (eval (.Name x pn) X.env)
   let iv <- holding [v,ov] (eval ix X.env)
   standAt cg
   holding [v,ov,iv] (setItem ov iv v)
   release [v,ov,iv] []):=by
 have hs:=h.CQ;cases ix <;> first |exact λ_=>rfl |exact Bool.noConfusion (show false=true from hs)
theorem TY{es:List Expr}{k0:Nat}{pt:Pos}{e:Expr}{x:Ex}{env:Env}(h:Cm P c e x)(hn:∀vs k p,e≠.Tuple vs k p):swappedStores [.Tuple es k0 pt] e env=pure none:=by have hs:=h.CQ;cases e <;> first |rfl |exact absurd rfl (hn _ _ _) |exact Bool.noConfusion (show false=true from hs)
theorem wA{α β:Type}{f:α->Option β}:∀{l:List α}{a:α},a∈l->f a=none->(l.filterMap f).length<l.length
 |b::l,a,h,e=>by
  have hle:=List.length_filterMap_le f l;rcases dS.mp h with rfl |h
  . rw[List.filterMap_cons_none e,eI];exact Nat.lt_succ_of_le hle
  .
   have:=wA h e;rw[eI,v6];split
   . exact Nat.lt_succ_of_le hle
   . rw[eI];exact Nat.succ_lt_succ this
theorem T3{es:List Expr}{k0:Nat}{pt:Pos}{e:Expr}(ct:bG P k X c)(h:Ma c es e=true):swappedStores [.Tuple es k0 pt] e X.env=pure none:=by
 obtain⟨h1,h2⟩:=aq h;obtain⟨h3,h4⟩:=aq h2;obtain⟨a,ha,h5⟩:=AS.mp h4;unfold X7 at h5;split at h5
 .
  rename_i x ex;obtain⟨px,rfl⟩:∃p,a=.Name x p:=by cases a <;> first | (cases ex;exact⟨_,rfl⟩) |cases ex
  have hx:X.env.kindOf x=some .cell:=ct.cel h3 x (l4 h5);obtain⟨vs,k2,pt2,rfl⟩:∃vs k p,e=.Tuple vs k p:=by cases e <;> first |exact⟨_,_,_,rfl⟩ |cases h1
  show (if _ then _ else _:Sem (Option (List Str)))=_
  split
  . rfl
  .
   show (if _ then _ else _:Sem (Option (List Str)))=_
   split
   . rfl
   .
    show (if _ then _ else _:Sem (Option (List Str)))=_
    rw[eP];rw[n0];refine .inl ?_;rw[bne_iff_ne];refine hZ (wA ha ?_);simp only[hx];rfl
 . cases h5
theorem T4{es:List Expr}{k0:Nat}{pt:Pos}{e:Expr}{x:Ex}(ct:bG P k X c)(h:Cm P c e x)(hn:(∀vs k p,e≠.Tuple vs k p)\/Ma c es e=true):swappedStores [.Tuple es k0 pt] e X.env=pure none:=
 hn.elim (TY h) (T3 ct)
theorem T5{y:Str}{pn cg:Pos}{ix e:Expr}{x:Ex}{env:Env}(h:Cm P c e x):swappedStores [.Subscript (.Name y pn) ix cg] e env=pure none:=by have hs:=h.CQ;cases e <;> first |rfl |exact Bool.noConfusion (show false=true from hs)
theorem wB(hS:nq P rn)(ct:bG P k X c)(mO:c.df=true)(hK:z.K=X.K){s:Stmt}{x:Sm}{g g':G}{f:Fl}(hc:Jx P c s x)(h:aR rn z.bor k x g=some (f,g')):g7 X z s g f g':=by
 cases hc.out with
 |ret h1=>
  unfold aR at h;dsimp only at h;split at h
  . rename_i r g1 e1;cases h;exact RT (hS.e ct hK h1 e1)
  . cases h
 |expr h1 h2=>
  unfold aR at h;dsimp only at h;split at h
  . rename_i r g1 e1;cases h;exact KR (hS.e ct hK h1 e1) (kO h1 h2 _ _ _)
  . cases h
 |@set y i e x py pos h1 h2 h3 h4=>
  have nm:=ct.nm h1 h2;have hsw:swapsWith e (some (.Name y py)) pos.line X.env=pure false:=CV ct mO h2 h3 h4;unfold aR at h;dsimp only at h;split at h
  . cases h
  .
   rename_i hb;split at h
   .
    rename_i l g1 e1;split at h
    . rename_i hl;cases h;exact KY nm.nd nm.ix nm.lc (hS.e ct hK h3 e1) hl hsw nm.fn hb
    . cases h
   .
    rename_i r g1 _ e1;split at h
    . rename_i d g2 e2;cases h;exact KS nm.nd nm.ix nm.lc (Hl (hS.e ct hK h3 e1) e2) hsw nm.fn hb
    . cases h
   . cases h
 |@setC y i a b s p n kk T it co x py pos h1 h2 h3=>
  have hl:c.sc.names.lookup y=some .local:=by unfold DW at h2;simp only[c8]at h2;exact eq_of_beq h2.1.1
  have fh:fO c y=true:=by unfold fO;rw[hl]
  have nm:=ct.nm h1 fh;unfold aR at h;dsimp only at h;split at h
  . cases h
  .
   rename_i hb;split at h
   .
    rename_i acc g1 e1;split at h
    .
     rename_i hi;cases h;cases h3.out with
     |comp k1 k2 k3 k4 k5 k6 k7 k8=>obtain⟨ao,g1,gE,w1,w2,w3,w4,w5,rfl⟩:=wz hS ct hK k3 k4 k5 k6 k7 k8 e1;exact K9 (jf ct k1) ct.calm (by rw[ct.N];exact fD k2) w1 w2 w3 w4 w5 nm.nd nm.ix (ct.VG _ hl) hb hi (by rw[kP ct mO fh,h2]) λy=>k6.folded y
    . cases h
   . cases h
 |@Pp y i a b s p n kk T1 T j3 it c1 co x py pos h1 h2 h3=>
  have hl:c.sc.names.lookup y=some .local:=by unfold DW at h2;simp only[c8]at h2;exact eq_of_beq h2.1.1
  have fh:fO c y=true:=by unfold fO;rw[hl]
  have nm:=ct.nm h1 fh;unfold aR at h;dsimp only at h;split at h
  . cases h
  .
   rename_i hb;split at h
   .
    rename_i acc g1 e1;split at h
    .
     rename_i hi;cases h;cases h3.out with
     |bN k1 k2 k3 k4 k4' k5 k5' k6 k7 k8 k9 k10=>obtain⟨ao,g1,gE,w1,w2,w3,w4,w5,w6,w7,rfl⟩:=rZ hS ct hK k3 k4 k4' k5 k5' k6 k7 k8 k9 k10 e1;exact GJ (jf ct k1) ct.calm (by rw[ct.N];exact fD k2) w1 w2 w3 w4 w5 w6 w7 nm.nd nm.ix (ct.VG _ hl) hb hi (by rw[kP ct mO fh,h2]) (λy=>k6.folded y) λb y=>k8.folded y
    . cases h
   . cases h
 |@tgt es k0 pt pos T e x h1 h2 h3 h4=>
  unfold aR at h;dsimp only at h;split at h
  . cases h
  .
   rename_i hb;split at h
   .
    rename_i d g1 e1;split at h
    .
     rename_i g2 e2;cases h;obtain⟨t,q,kt⟩:=rY (z:=z) ct hK h1 λi hi hm=>hb (by rw[AS];exact⟨i,hi,lL hm⟩)
     obtain⟨te,qe,ke⟩:=aQ hS ct hK h2 e1;have hsw:swapsWithSole [.Tuple es k0 pt] e pos.line X.env=pure false:=kO h2 h4 (some (.Tuple es k0 pt)) pos.line X.env;have fh:swappedStores [.Tuple es k0 pt] e X.env=pure none:=T4 ct h2 h3;refine⟨_,xH qe q hsw fh rfl,λσ As M H E s k2=>ke σ As M H _ s λv H1 bf M1 s1 eu R=>?_⟩
     exact kt d g1 _ e2 v σ bf M1 H1 _ s1 R λσ' aG s' _=>k2 σ' aG M1 H1 s' eu
    . cases h
   . cases h
 |@item y i ix e xj x pn cg pos h1 h2 h3 h4 h5 h6=>
  obtain⟨hd,eS⟩:=cu h3;unfold aR at h;dsimp only at h;split at h
  .
   rename_i d g1 e1;split at h
   .
    rename_i l0 e2;split at h
    .
     rename_i n g2 e3;split at h
     .
      rename_i l e4;split at h
      . rename_i m e5;cases h;have hsw:swapsWithSole [.Subscript (.Name y pn) ix cg] e pos.line X.env=pure false:=kO h5 h6 (some (.Subscript (.Name y pn) ix cg)) pos.line X.env;have fh:swappedStores [.Subscript (.Name y pn) ix cg] e X.env=pure none:=T5 h5;exact KZ (by rw[ct.N];exact h1) (ct.vis h2) hd eS (aQ hS ct hK h5 e1) e2 (aQ hS ct hK h4 e3) e4 e5 (yM h4) hsw fh rfl
      . cases h
     . cases h
    . cases h
   . cases h
  . cases h
 |aug h1 h2 h3=>
  have nm:=ct.nm h1 h2;unfold aR at h;dsimp only at h;split at h
  . cases h
  .
   rename_i hb;split at h
   .
    rename_i d1 e1;split at h
    .
     rename_i d2 g1 e2;split at h
     . rename_i d e3;cases h;exact Se nm hb (aQ hS ct hK h3 e2) e1 (L5 e3)
     . cases h
    . cases h
   .
    rename_i e1;split at h
    .
     rename_i ho;subst ho;split at h
     .
      rename_i m g1 e2;split at h
      .
       rename_i l e3;split at h
       . rename_i hl;cases h;exact Ls nm (aQ hS ct hK h3 e2) e1 e3 hl
       . cases h
      . cases h
     . cases h
    . cases h
   . cases h
 |@items2 x y i j ix iy e xi yi xe pn Gw cg iC pt pos kt h1 h2 h3 h4 h5 h6 h7 h8 h9 h10=>
  obtain⟨hd,eS⟩:=cu h3;obtain⟨hd2,Ss⟩:=cu h6;unfold aR at h;dsimp only at h;split at h
  .
   rename_i d1 d2 g1 e1;split at h
   .
    rename_i l0 e2;split at h
    .
     rename_i n1 g2 e3;split at h
     .
      rename_i l e4;split at h
      .
       rename_i m1 e5;split at h
       .
        rename_i l1 e6;split at h
        .
         rename_i n2 g3 e7;split at h
         .
          rename_i l2 e8;split at h
          . rename_i m2 e9;cases h;have hsw:swapsWithSole [.Tuple [.Subscript (.Name x pn) ix cg,.Subscript (.Name y Gw) iy iC] kt pt] e pos.line X.env=pure false:=kO h9 h10 (some (.Tuple [.Subscript (.Name x pn) ix cg,.Subscript (.Name y Gw) iy iC] kt pt)) pos.line X.env;exact Cg ct.calm hK (by rw[ct.N];exact h1) (ct.vis h2) hd eS (by rw[ct.N];exact h4) (ct.vis h5) hd2 Ss (aQ hS ct hK h9 e1) e2 (aQ hS ct hK h7 e3) e4 e5 e6 (aQ hS ct hK h8 e7) e8 e9 (yM h7) (yM h8) hsw (Hv h9)
          . cases h
         . cases h
        . cases h
       . cases h
      . cases h
     . cases h
    . cases h
   . cases h
  . cases h
 |ite h1 h2 h3=>
  unfold aR at h;dsimp only at h;split at h
  . rename_i g1 e1;exact OJ (hS.t ct hK h1 e1) (by rw[eP rfl];exact hS.b ct mO hK h2 h)
  . rename_i g1 e1;exact OJ (hS.t ct hK h1 e1) (by rw[eQ hU];exact hS.b ct mO hK h3 h)
  . cases h
 |loop h1 h2 h3=>
  unfold aR at h;dsimp only at h;split at h
  . cases h
  .
   rename_i hb;split at h
   . rename_i ao g1 e1;exact R7 (uy ct) ct.calm (pY hS ct hK (wm h1) h2 e1) (rY ct hK h1 λi hi hm=>hb (by rw[AS];exact⟨i,hi,lL hm⟩)) (qc (λe=>hS.b ct mO hK h3 e) h) λy=>h2.folded y
   . cases h
 | «while» h1 h2=>exact Gd (uy ct) (yL (λe=>hS.t ct hK h1 e) (λe=>hS.b ct mO hK h2 e) h)
 |stuck=>cases h
theorem Hw(hS:nq P rn)(ct:bG P k X c)(mO:c.df=true)(hK:z.K=X.K){ss:List Stmt}{x:Sm}{g g':G}{f:Fl}(h:Mp P (Cm P c) (Jx P c) c ss x)(e:aR rn z.bor k x g=some (f,g')):Cj X z ss g f g':=by
 cases h with
 |@rows y x mn a b tn im it iy ia ib scope N' kb j lp px rp mp VB Sx ap py pa pb Dw y1 y2 a1 a2 b1 b2 Vu Vw O8 Pa O9 Jr Vv Vx GP rpos yr tp tk h1 h2 h3 h4 h5 h6 h7 h8 h9 h10=>
  unfold aR at e;dsimp only at e;split at e
  .
   rename_i m aj gm gt;split at e
   .
    rename_i gy ga gb;split at e
    .
     rename_i hm;split at e
     .
      rename_i ll hF;cases e;have hl:c.sc.names.lookup y=some .local:=by have:=h3.2.1;unfold DW at this;simp only[c8]at this;exact eq_of_beq this.1.1
      have fh:fO c y=true:=by unfold fO;rw[hl]
      obtain⟨m,rfl⟩:∃n:Nat,m=n:=⟨m.toNat,by lia⟩
      rw[nN]at hF;obtain⟨dm,cm⟩:=cu h1.2.2;obtain⟨dt,Yq⟩:=cu h2.2.2;obtain⟨dy,cy⟩:=cu h3.2.2;obtain⟨da,ca⟩:=cu h4.1.2.2;obtain⟨db,cb⟩:=cu h5.1.2.2;have ny:=ct.nm h3.1 fh;exact yq (uy ct) hK h7.1 (by rw[ct.N];exact fD h7.2.2.1) (jf ct h7.2.1) ct.calm (λbk=>(ct.blk h7.2.2.2.1 bk).nm (by rw[ct.N];exact h7.2.2.2.2.1) h7.2.2.2.2.2) (ct.qE _ h8.2) (ct.md.bn _ h8.1) (by rw[ct.N];exact h1.1) (ct.vis h1.2.1) dm cm gm ⋯ ny.nd ny.ix (ct.VG _ hl) dy cy gy (by rw[kP ct mO fh,h3.2.1])
       (ct.nm h4.1.1 h4.2) (ct.vis h4.1.2.1) da ca (ct.nm h5.1.1 h5.2) (ct.vis h5.1.2.1) db cb (by rw[ct.N];exact h2.1) (ct.vis h2.2.1) dt Yq gt ga gb h6.1 h6.2.1 h6.2.2 h9 h10 hF
     . cases e
    . cases e
   . cases e
  . cases e
theorem qg(hS:nq P rn)(ct:bG P k X c)(mO:c.df=true)(hK:z.K=X.K):∀{uP:List Stmt}{xs:List Sm}{g g':G}{f:Fl},Hj P c uP xs->g6 rn z.bor k xs g=some (f,g')->fJ X z uP g f g'
 |_,_,_,_,_,.nil,h=>by cases h;exact RM
 |_,_,_,_,f,.grp h1 h2,h=>by
  unfold g6 at h;split at h
  . rename_i g1 e1;exact (Hw hS ct mO hK h1 e1).bk (qg hS ct mO hK h2 h)
  . rename_i hn e1;cases h;exact (Hw hS ct mO hK h1 e1).end λe=>hn e
  . cases h
 |_,_,_,_,f,.cons h1 h2,h=>by
  unfold g6 at h;split at h
  . rename_i g1 e1;exact KQ (wB hS ct mO hK h1 e1) (qg hS ct mO hK h2 h)
  .
   rename_i hn e1;cases h;have q:=wB hS ct mO hK h1 e1;cases f with
   |nx=>exact absurd rfl hn
   |rt r=>exact RN q
   |bk=>exact RP q
   |ct=>exact RQ q
  . cases h
end
theorem wC{P:Pg}{fns:List Fx}(hF:pZ P fns):∀n,nq P (run fns n)
 | 0=>⟨λ_ _ _ h=>(by cases h),λ_ _ _ h=>(by cases h),λ_ _ _ _ h=>(by cases h)⟩
 |n+1=>
  let a:=wC hF n
  ⟨λct hK hc h=>Ht a ⟨⟩ hF ct hK hc h,λct hK hc h=>Hu a ct hK hc h,λct mO hK hc h=>qg a ct mO hK hc h⟩
theorem Mz{P:Pg}{fns:List Fx}(hF:pZ P fns)(n:Nat):nq P (run fns n):=wC hF n
def bu(K:Frag)(mg:Str->Option Value)(fi:Fi):Prop:=
 ∃f fd,mg fi.name=some (.ref f)/\W3 K fi.name fi.qual fi.st f fd/\fS fi.N fi.ps (aZ fi.st)/\(∀us:List Value,us.length=fi.ps.length->bindArgs fd ⟨us,[]⟩=pure (fi.ps.zip us))/\(fi.name==("__debug__":Str))=false
def Hx(K:Frag)(mg:Str->Option Value)(p:Str×D):Prop:=(p.1==("__debug__":Str))=false/\∃v u,mg p.1=some u/\RelV v u/\∀M H,Rep K M H p.2 v
inductive All{α:Type}(p:α->Prop):List α->Prop
 |nil:All p []
 |cons {a:α}{l:List α}:p a->All p l->All p (a::l)
theorem All.mem{α:Type}{p:α->Prop}:∀{l:List α},All p l->∀a∈l,p a
 |_,.nil,_,h=>nomatch h
 |_,.cons h t,a,hm=>(dS.mp hm).elim (λe=>e▸h) (All.mem t a)
structure T6(P:Pg)(K:Frag)(mg:Str->Option Value):Prop where
 lam:P.lam=true->∀fW,PySem.W.codeIn K fW "law"=true->S5 K mg fW
 Pj:∀(i:Nat) (C:Addr),P.Pj[i]?=some C->∃x,P.cls[i]?=some x/\mg x=some (.ref C)/\BW K C/\Xa K C
 kt:P.lam=true->(P.kt==("__debug__":Str))=false/\∃D,mg P.kt=some (.ref D)/\BW K D/\∀C∈P.Pj,XJ K C D=true
 ups:∀(x:Str) (l:List (Addr×Bool)),(x,l)∈P.ups->(x==("__debug__":Str))=false/\∃cv,((mg x=some cv/\∃D,cv=.ref D)\/(x∈P.bn/\x≠ "__name__" /\bootBuiltins x=some cv/\∃n,cv=.type n))/\PySem.W.kitOne K (.type "NoneType") cv=some false/\∀C b,l.lookup C=some b->PySem.W.kitOne K (.ref C) cv=some b
theorem MF{P:Pg}{K:Frag}{mg:Str->Option Value}(h1:P.lam=false)(h2:P.Pj=[])(h3:P.ups=[]):T6 P K mg:=
 ⟨λh=>(by rw[h1]at h;cases h),λi C h=>(by rw[h2]at h;cases h),λh=>(by rw[h1]at h;cases h),λx l h=>(by rw[h3]at h;cases h)⟩
theorem Yt{P:Pg}{K:Frag}{mg:Str->Option Value}(h1:All (bu K mg) P.fn)(h2:All (Hx K mg) P.ct)(h3:All (λx=>mg x=none) P.bn)(h4:All (λx=>(x==("__debug__":Str))=false/\∃C,mg x=some (.ref C)/\BW K C) P.cls)(h5:T6 P K mg):CG P K mg:=
 ⟨λi fi e=>let ⟨f,fd,q1,q2,q3,q4,q5⟩:=h1.mem fi (i5 e);⟨f,fd,q1,q2,q3,.all q4,q5⟩,λx d h=>h2.mem (x,d) h,λx h=>h3.mem x h,λx h=>h4.mem x h,h5.lam,h5.Pj,h5.kt,h5.ups⟩
def BdOk(fi:Fi):Prop:=∀(kV doc pm:Value) (an:Option Addr) (fW ct:Value) (us:List Value),us.length=fi.ps.length->bindArgs (PySem.W.fnOf fi.name fi.qual (iW fi.st) (cC fi.st) (aZ fi.st) .none kV doc pm an fW ct) ⟨us,[]⟩=pure (fi.ps.zip us)
section
variable{K:Frag}
theorem Yu{fi:Fi}{oc:Value}{od an:Option Addr}{osl:Array (Option Value)}{kV doc pm fW ct:Value}(X:K.In h)(G:h.Ns mainGlobals mg)(a:PySem.W.nsIn K mainGlobals fi.name=some (some (.ref f)))
  (l:K.lookup f=some ⟨oc,od,.func (PySem.W.fnOf fi.name fi.qual (iW fi.st) (cC fi.st) (aZ fi.st) .none kV doc pm an fW ct),osl⟩) (c:PySem.W.codeIn K fW fi.qual=true) (k:PySem.W.keepIn K (.ref f)=true)
  (sc:fS fi.N fi.ps (aZ fi.st)) (hb:BdOk fi)
  (hd:(fi.name==("__debug__":Str))=false):bu K mg fi:=
 let F:=QS (x:=fi.name) (qual:=fi.qual) (st:=fi.st) l c k
 ⟨f,_,PySem.W.mg_of X G a,F,sc,hb kV doc pm an fW ct,hd⟩
theorem yN{x:Str}{i:Int}{t:Tok}(X:K.In h)(G:h.Ns mainGlobals mg)(a:PySem.W.nsIn K mainGlobals x=some (some (.int i t)))(hd:(x==("__debug__":Str))=false):Hx K mg (x,.int i):=
 ⟨hd,.int i,.int i t,PySem.W.mg_of X G a,⟨t,rfl⟩,λ_ _=>.int i⟩
theorem T7{P:Pg}{fns:List Fx}{prog:Program}{w:World}{base:Heap}(hF:pZ P fns)(md:CG P K mg){i:Nat}{fi:Fi}{fx:Fx}{x:Str}{fd:FuncData}{n k:Nat}(SM:P.fn[i]?=some fi)(Ea:fns[i]?=some fx)(hp:fi.ps=[x])(F:W3 K fi.name fi.qual fi.st f fd)(sc:fS fi.N fi.ps (aZ fi.st)) :
  qF prog w K mg base Jp (k+1) f fd [x] (RX K fi.N 1 λbor g r g'=>(run fns n).b bor k fx.body g=some (.rt r,g')):=by
 have:=O1 (P:=prog) (w:=w) (mg:=mg) (base:=base) (k:=k) (N:=fi.N) (ps:=fi.ps) (run:=λbor g r g'=>(run fns n).b bor k fx.body g=some (.rt r,g')) F sc λfW A outer s H E eS hr z g r g' hK hrun=>
  ⟨_,(Mz hF n).b (wu sc md eS hr) rfl hK (hF i fi fx SM Ea).body hrun,.inl rfl⟩
 rw[hp]at this;exact this
theorem Hy{P:Pg}{fns:List Fx}{prog:Program}{w:World}(hF:pZ P fns)(md:CG P K mg){i:Nat}{fi:Fi}{fx:Fx}{x:Str}{n k:Nat}(SM:P.fn[i]?=some fi)(Ea:fns[i]?=some fx)(hp:fi.ps=[x])(h:bu K mg fi)(hm:mg fi.name=some (.ref f)) :
  ∃fd:FuncData,(∀(s:Shared) (u:Value),BindsTo s fd ⟨[u],[]⟩ [(x,u)])/\∀base:Heap,K.In base->base.Ns mainGlobals mg->qF prog w K mg base Jp (k+1) f fd [x] (RX K fi.N 1 λbor g r g'=>(run fns n).b bor k fx.body g=some (.rt r,g')):=by
 obtain⟨f',fd,q1,q2,q3,q4,q5⟩:=h;rw[hm]at q1;cases q1;refine⟨fd,λs u=>.of_eq ?_,λbase _ _=>T7 hF md SM Ea hp q2 q3⟩
 have:=q4 [u] (by rw[hp];rfl)
 rw[hp]at this;exact this
theorem T8{N:List Str}{run:List Nat->G->R->G->Prop}(hev:∀ns:List Int,ns.length<=63->∃g',run [] (fZ N.length [.dat (.fix (ns.map .int))]) (.dat (.bl true)) g')(K:Frag)(H:Hp)(a:Addr)(ns:List Int)(hl:ns.length<=63)(hO:zJ ((fY K).map (·.1)) H)(hS:bY K H a (ns.map V.int)) :
  RX K N 1 run [.ref a] H (λv _=>v=.bl true) λ_ _ _=>False:=by
 obtain⟨g',hg⟩:=hev ns hl;have fx:oO K ((fY K).map (·.1)) H a (ns.map V.int):=by
  rcases hS with h |h
  .
   rcases hO a with ⟨_,z⟩ |⟨na,z⟩
   . rcases h with h |⟨o,h⟩ <;> (rw[z]at h;cases h)
   .
    refine .inl ⟨na,?_⟩;rcases h with h |h
    .
     rcases z with z |⟨o,xs,z⟩
     . rw[z]at h;cases h
     . rw[z]at h;cases h
    . exact h
  . exact .inr (.inr h)
 have rr:∀ns:List Int,aH K ((fY K).map (·.1)) H (ns.map D.int) (ns.map V.int):=λns=>by
  induction ns with
  |nil=>exact .nil
  |cons n ns ih=>exact .cons (.int n) ih
 have tb:∀p∈fY K,H p.1=some (.Dz #[]):=λp hp=>by
  rcases hO p.1 with ⟨_,z⟩ |⟨z,_⟩
  . exact z
  . exact absurd (fA.mpr ⟨p,hp,rfl⟩) z
 refine⟨rfl,⟨K,H,(fY K).map (·.1),[],fY K⟩,fZ N.length [.dat (.fix (ns.map .int))],g',[],(fY K).map (·.1),.dat (.bl true),rfl,?_,hg,λv σ' aG M' H' s' st R=>gB R⟩
 refine⟨?_,vS,(λa ha=>nomatch ha),λi b l e1 e2=>?_,(λm hm=>.inr hm),(λb o e _ _=>e),(λm hm=>hm),(λm hm=>?_),(λb hb=>nomatch hb),(λp hp=>nomatch hp),(λp hp=>⟨#[],tb p hp,trivial,λpos cv e=>nomatch e⟩),(λp hp=>fA.mpr ⟨p,hp,rfl⟩),rfl⟩
 . exact Slots.append (A1:=[]) (.dat (.fix fx (rr ns)) .nil) (Slots.Zq _)
 .
  exfalso;unfold fZ at e1;cases i with
  |zero=>simp at e1
  |succ i=>rw[eC ⋯]at e1;have:=i5 e1;rw[t9]at this;exact absurd this.2 ⋯
 . obtain⟨p,hp,rfl⟩:=fA.mp hm;intro z;have z:H p.1=none:=z;rw[tb p hp]at z;cases z
end
noncomputable abbrev Fi.ct(fi:Fi):Ct:=⟨fi.N,aZ fi.st,true,fi.qual⟩
def zW(P:Pg)(fi:Fi)(fx:Fx):List Stmt:=qU (TJ P 99 (Pw P 99 20 fi.ct) fi.ct) (Pw P 99 20 fi.ct) fx.body (cC fi.st)
def fxB(P:Pg)(fi:Fi)(fx:Fx):Bool:=decide (fx.np=fi.ps.length)&&(decide (fx.n=fi.N.length)&&Jw (TL P 99 (Px P 99 20 fi.ct) fi.ct) (Px P 99 20 fi.ct) fx.body (cC fi.st))
theorem T9{P:Pg}{fi:Fi}{fx:Fx}(e:zW P fi fx=cC fi.st)(h:fxB P fi fx=true):Mx P fi fx:=⟨dec (aq h).1,dec (aq (aq h).2).1,Eq.mp (congrArg (λl=>Hj P fi.ct l fx.body) e) (Hj.mk (aq (aq h).2).2)⟩
def Hz(P:Pg):List Fi->List Fx->Bool
 |fi::l,fx::r=>fxB P fi fx&&Hz P l r
 |_,_=>true
theorem MJ{P:Pg}{l:List Fi}{r:List Fx}(e:List.zipWith (zW P) l r=l.map λfi=>cC fi.st)(h:Hz P l r=true)(f:Nat)(fi:Fi)(fx:Fx)(h1:l[f]?=some fi)(h2:r[f]?=some fx):Mx P fi fx:=by
 induction l generalizing r f with
 |nil=>cases h1
 |cons a l ih=>cases r with
  |nil=>cases h2
  |cons b r=>
   have h:(fxB P a b&&Hz P l r)=true:=h;cases f with
   |zero=>cases h1;cases h2;exact T9 (List.cons.inj e).1 (aq h).1
   |succ f=>exact ih (List.cons.inj e).2 (aq h).2 f h1 h2
theorem Ua{P:Pg}{fns:List Fx}(h:Hz P P.fn fns=true)(e:List.zipWith (zW P) P.fn fns=P.fn.map λfi=>cC fi.st):pZ P fns:=λf fi fx h1 h2=>MJ e h f fi fx h1 h2
theorem Yv{us:List Value}(h:us.length=1):∃a,us=[a]:=by
 cases us with
 |nil=>cases h
 |cons a us=>cases us with
  |nil=>exact⟨a,rfl⟩
  |cons _ _=>cases h
theorem Yw{us:List Value}(h:us.length=2):∃a b,us=[a,b]:=by
 cases us with
 |nil=>cases h
 |cons a us=>obtain⟨b,rfl⟩:=Yv (BO h);exact⟨a,b,rfl⟩
theorem len3{us:List Value}(h:us.length=3):∃a b c,us=[a,b,c]:=by
 cases us with
 |nil=>cases h
 |cons a us=>obtain⟨b,c,rfl⟩:=Yw (BO h);exact⟨a,b,c,rfl⟩
def bz(st:Stmt):Fi:=match st with
 |.FunctionDef name args _ _ _ _ scope _ _ _=>⟨name,name,st,(args.args.map (·.arg))++scope.names.filterMap (λy=>if (y.2==.local||y.2==.cell)&&!(args.args.map (·.arg)).contains y.1 then some y.1 else none),args.args.map (·.arg)⟩
 |st=>⟨"", "",st,[],[]⟩
section
theorem HB(ds:List D):∀i,vars i (ds.map R.dat)=[]:=by
 induction ds with
 |nil=>intro i;rfl
 |cons d ds ih=>intro i;exact ih (i+1)
theorem HD(ds:List D):eG (ds.map R.dat) g1=some (ds.map .dat):=by
 induction ds with
 |nil=>rfl
 |cons d ds ih=>
  show (match eG (ds.map R.dat) g1 with |some gs=>some (Slot.dat d::gs) |none=>none)=_
  rw[ih];rfl
noncomputable def VL:List D->G
 | []=>[]
 |d::l=>.dat d::VL l
theorem MK(ds:List D):VL ds=ds.map .dat:=by
 induction ds with
 |nil=>rfl
 |cons d ds ih=>rw[VL,ih];rfl
def aU(rn:Rn)(k:Nat)(fx:Fx)(ds:List D):Option R:=match rn.b [] k fx.body (fZ fx.n (VL ds))with
 |some (.rt r,gc)=>gR [] gc r
 |some (.nx,_)=>some (.dat .non)
 |_=>none
theorem mj{fx:Fx}{ds:List D}(hl:ds.length=fx.np):bO rn fx k (ds.map .dat) g1=(aU rn k fx ds).map λr=>(r,g1):=by
 unfold bO aU;rw[HB,HD,MK];simp only[dC,hl,List.map_nil,vS,and_self,u7];cases rn.b [] k fx.body (fZ fx.n (ds.map .dat))with
 |none=>rfl
 |some p=>
  obtain⟨f,gc⟩:=p;cases f with
  |nx=>rfl
  |rt r=>simp only[back];cases gR [] gc r <;> rfl
  |bk=>rfl
  |ct=>rfl
noncomputable def gM(g m:G)(acc:List D):G:=g++(m++[.own acc])
theorem mq{g m:G}{acc:List D}{i:Nat}(h:i<g.length):(gM g m acc)[i]?=g[i]?:=by unfold gM;rw[dA h]
theorem dY{g m:G}{acc:List D}{i:Nat}(h:i<m.length):(gM g m acc)[g.length+i]?=m[i]?:=by unfold gM;rw[eC ⋯,mP,dA h]
theorem jh{g m:G}{acc:List D}:(gM g m acc)[g.length+m.length]?=some (.own acc):=by unfold gM;rw[eC ⋯,mP,eC (d5 _),Nat.sub_self];rfl
theorem jT{g m:G}{acc:List D}{i:Nat}{s:Slot}(h:i<m.length):(gM g m acc).set (g.length+i) s=gM g (m.set i s) acc:=by unfold gM;rw[AI _ _ ⋯,mP,List.set_append_left _ _ h]
theorem iL{g m:G}{acc acc':List D}:(gM g m acc).set (g.length+m.length) (.own acc')=gM g m acc':=by unfold gM;rw[AI _ _ ⋯,mP,AI _ _ (d5 _),Nat.sub_self];rfl
theorem uz{g m:G}{acc:List D}:(gM g m acc).take g.length=g:=by unfold gM;simp
theorem HF{kk:Nat}:gC kk g=gM g (List.replicate kk .no) []:=rfl
theorem uA{α:Type}{T:Tg}{last kk:Nat}{c:Option Ex}{e:Ex}(cZ:α->D)(f:α->D)(p:α->Bool)(st:α->G->G)(dj:last=g.length+kk)(fh:∀d m,m.length=kk->(st d m).length=kk) :
  ∀(ao:List α) (m:G) (acc:List D),m.length=kk->acc.length+ao.length<=lim->
  (∀d∈ao,∀m acc,m.length=kk->T.set (cZ d) (gM g m acc)=some (gM g (st d m) acc))->
  (∀d∈ao,∀m acc,m.length=kk->pM rn bor k c (gM g (st d m) acc)=some (p d,gM g (st d m) acc))->
  (∀d∈ao,p d=true->∀m acc,m.length=kk->eV rn bor k e (gM g (st d m) acc)=some (f d,gM g (st d m) acc))->
  ∃m',m'.length=kk/\yC rn bor k T last c e (ao.map cZ) (gM g m acc)=some (gM g m' (acc++(ao.filter p).map f))
 | [],m,acc,hm,_,_,_,_=>⟨m,hm,by simp[yC]⟩
 |d::ao,m,acc,hm,hl,hT,hi,he=>by
  rw[eI]at hl;have q1:=hT d bP m acc hm;have q2:=hi d bP m acc hm;have hm':=fh d m hm;rw[List.map_cons];unfold yC;rw[q1];dsimp only;rw[q2];cases hp:p d with
  |false=>
   dsimp only;obtain⟨m',w1,w2⟩:=uA cZ f p st dj fh ao (st d m) acc hm' ⋯ (λx hx=>hT x (aS _ hx)) (λx hx=>hi x (aS _ hx)) (λx hx=>he x (aS _ hx))
   exact⟨m',w1,by rw[w2,AT,hp];rfl⟩
  |true=>
   have q3:=he d bP hp m acc hm;dsimp only;rw[q3];dsimp only;have q4:(gM g (st d m) acc)[last]?=some (.own acc):=by rw[dj,<- hm'];exact jh
   rw[q4];dsimp only;rw[eP ⋯];have q5:(gM g (st d m) acc).set last (.own (acc++[f d]))=gM g (st d m) (acc++[f d]):=by rw[dj,<- hm'];exact iL
   rw[q5];obtain⟨m',w1,w2⟩:=uA cZ f p st dj fh ao (st d m) (acc++[f d]) hm' (by rw[dL,l7];lia) (λx hx=>hT x (aS _ hx)) (λx hx=>hi x (aS _ hx)) (λx hx=>he x (aS _ hx))
   refine⟨m',w1,?_⟩;rw[w2,AT,hp];simp
theorem r9{α:Type}{kk nn:Nat}{T:Tg}{it:Ex}{c:Option Ex}{e:Ex}(ao:List α)(cZ:α->D)(f:α->D)(p:α->Bool)(st:α->G->G)(hw:dg rn bor k T.fL it g=some (ao.map cZ,g1))(hn:nn=g1.length)(hb:(T.ix.any λi=>decide (i∈bor))=false)(hl:ao.length<=lim)(fh:∀d m,m.length=kk->(st d m).length=kk)
  (hT:∀d∈ao,∀m acc,m.length=kk->T.set (cZ d) (gM g1 m acc)=some (gM g1 (st d m) acc))
  (hi:∀d∈ao,∀m acc,m.length=kk->pM rn bor k c (gM g1 (st d m) acc)=some (p d,gM g1 (st d m) acc))
  (he:∀d∈ao,p d=true->∀m acc,m.length=kk->eV rn bor k e (gM g1 (st d m) acc)=some (f d,gM g1 (st d m) acc)) :
  fM rn bor k nn kk T it c e g=some ((ao.filter p).map f,g1):=by
 subst hn;obtain⟨m',w1,w2⟩:=uA (rn:=rn) (bor:=bor) (k:=k) (g:=g1) (last:=g1.length+kk) cZ f p st rfl fh ao (List.replicate kk .no) [] ⋯ (by simpa using hl) hT hi he
 unfold fM;rw[hw];dsimp only;rw[eP ⟨rfl,hb⟩,HF,w2];dsimp only;have:(gM g1 m' ([]++(ao.filter p).map f))[g1.length+kk]?=some (.own ([]++(ao.filter p).map f)):=by rw[<- w1];exact jh
 rw[this];dsimp only;rw[uz,AE]
theorem uB{j kk:Nat}{d:D}{m:G}{acc:List D}(hj:g.length<=j)(hk:j - g.length<m.length):(Tg.nm j).set d (gM g m acc)=some (gM g (m.set (j - g.length) (.dat d)) acc):=by
 show some ((gM g m acc).set j (.dat d))=_;have:=jT (g:=g) (acc:=acc) (s:=.dat d) hk;rw[show g.length+(j - g.length)=j by lia]at this
 rw[this]
def wD(g:G)(j:Nat)(d:D)(G':G):Prop:=(∀i,i<g.length->G'[i]?=g[i]?)/\G'[j]?=some (.dat d)
theorem wF{α:Type}{kk nn j:Nat}{it:Ex}{c:Option Ex}{e:Ex}(ao:List α)(cZ:α->D)(p:α->Bool)(f:α->D)(hw:dg rn bor k false it g=some (ao.map cZ,g1))(hn:nn=g1.length)(hj1:g1.length<=j)(hj2:j<g1.length+kk)(hb:j∉bor)(hl:ao.length<=lim)
  (hi:∀a∈ao,∀G',wD g1 j (cZ a) G'->pM rn bor k c G'=some (p a,G')) (he:∀a∈ao,p a=true->∀G',wD g1 j (cZ a) G'->eV rn bor k e G'=some (f a,G')) :
  fM rn bor k nn kk (.nm j) it c e g=some ((ao.filter p).map f,g1):=by
 have sees:∀(a:α) (m:G) (acc:List D),m.length=kk->wD g1 j (cZ a) (gM g1 (m.set (j - g1.length) (.dat (cZ a))) acc):=λa m acc hm=>by
  refine⟨λi hi=>mq hi,?_⟩
  have:=dY (g:=g1) (m:=m.set (j - g1.length) (.dat (cZ a))) (acc:=acc) (i:=j - g1.length) (by simp;lia)
  rw[show g1.length+(j - g1.length)=j by lia]at this
  rw[this,fR ⋯]
 refine r9 (T:=.nm j) ao cZ f p (λa m=>m.set (j - g1.length) (.dat (cZ a))) hw hn (by simp[Tg.ix,hb]) hl (λd m hm=>by simpa using hm) (λa _ m acc hm=>uB (kk:=kk) hj1 ⋯) (λa ha m acc hm=>hi a ha _ (sees a m acc hm)) λa ha hp m acc hm=>he a ha hp _ (sees a m acc hm)
theorem filter_all{α:Type}(l:List α):l.filter (λ_=>true)=l:=List.filter_eq_self.mpr λ_ _=>rfl
theorem gI{α:Type}{kk nn j:Nat}{it:Ex}{e:Ex}(ao:List α)(cZ:α->D)(f:α->D)(hw:dg rn bor k false it g=some (ao.map cZ,g1))(hn:nn=g1.length)(hj1:g1.length<=j)(hj2:j<g1.length+kk)(hb:j∉bor)(hl:ao.length<=lim)
  (he:∀a∈ao,∀G',wD g1 j (cZ a) G'->eV rn bor k e G'=some (f a,G')):fM rn bor k nn kk (.nm j) it none e g=some (ao.map f,g1):=by
 have:=wF (c:=none) ao cZ (λ_=>true) f hw hn hj1 hj2 hb hl (λ_ _ _ _=>rfl) λa ha _ G' hG=>he a ha G' hG
 rw[filter_all]at this;exact this
def iM(g:G)(j1 j2:Nat)(d1 d2:D)(G':G):Prop:=(∀i,i<g.length->G'[i]?=g[i]?)/\G'[j1]?=some (.dat d1)/\G'[j2]?=some (.dat d2)
theorem bN{α:Type}{kk nn j1 j2:Nat}{it:Ex}{c:Option Ex}{e:Ex}(ao:List α)(bH cE:α->D)(p:α->Bool)(f:α->D)(hw:dg rn bor k true it g=some (ao.map λa=>.tup [bH a,cE a],g1))(hn:nn=g1.length)(hj1:g1.length<=j1)(Yx:j1<g1.length+kk)(hj2:g1.length<=j2)(Yy:j2<g1.length+kk)(eY:j1≠j2)(hb1:j1∉bor)(hb2:j2∉bor)(hl:ao.length<=lim)
  (hi:∀a∈ao,∀G',iM g1 j1 j2 (bH a) (cE a) G'->pM rn bor k c G'=some (p a,G')) (he:∀a∈ao,p a=true->∀G',iM g1 j1 j2 (bH a) (cE a) G'->eV rn bor k e G'=some (f a,G')) :
  fM rn bor k nn kk (.tp [j1,j2]) it c e g=some ((ao.filter p).map f,g1):=by
 have sees:∀(a:α) (m:G) (acc:List D),m.length=kk->iM g1 j1 j2 (bH a) (cE a) (gM g1 ((m.set (j1 - g1.length) (.dat (bH a))).set (j2 - g1.length) (.dat (cE a))) acc):=λa m acc hm=>by
  refine⟨λi hi=>mq hi,?_,?_⟩
  .
   have:=dY (g:=g1) (m:=(m.set (j1 - g1.length) (.dat (bH a))).set (j2 - g1.length) (.dat (cE a))) (acc:=acc) (i:=j1 - g1.length) (by simp;lia)
   rw[show g1.length+(j1 - g1.length)=j1 by lia]at this
   rw[this,eR ⋯,fR ⋯]
  .
   have:=dY (g:=g1) (m:=(m.set (j1 - g1.length) (.dat (bH a))).set (j2 - g1.length) (.dat (cE a))) (acc:=acc) (i:=j2 - g1.length) (by simp;lia)
   rw[show g1.length+(j2 - g1.length)=j2 by lia]at this
   rw[this,fR (by simp;lia)]
 refine r9 (T:=.tp [j1,j2]) ao (λa=>.tup [bH a,cE a]) f p (λa m=>(m.set (j1 - g1.length) (.dat (bH a))).set (j2 - g1.length) (.dat (cE a))) hw hn (by simp[Tg.ix,hb1,hb2]) hl (λd m hm=>by simpa using hm) (λa _ m acc hm=>?_) (λa ha m acc hm=>hi a ha _ (sees a m acc hm)) λa ha hp m acc hm=>he a ha hp _ (sees a m acc hm)
 have q1:=jT (g:=g1) (m:=m) (acc:=acc) (i:=j1 - g1.length) (s:=.dat (bH a)) ⋯;have q2:=jT (g:=g1) (m:=m.set (j1 - g1.length) (.dat (bH a))) (acc:=acc) (i:=j2 - g1.length) (s:=.dat (cE a)) (by simp;lia)
 rw[show g1.length+(j1 - g1.length)=j1 by lia]at q1
 rw[show g1.length+(j2 - g1.length)=j2 by lia]at q2
 show some (((gM g1 m acc).set j1 (.dat (bH a))).set j2 (.dat (cE a)))=_;rw[q1,q2]
theorem HJ{α:Type}{kk nn j1 j2:Nat}{it:Ex}{e:Ex}(ao:List α)(bH cE:α->D)(f:α->D)(hw:dg rn bor k true it g=some (ao.map λa=>.tup [bH a,cE a],g1))(hn:nn=g1.length)(hj1:g1.length<=j1)(Yx:j1<g1.length+kk)(hj2:g1.length<=j2)(Yy:j2<g1.length+kk)(eY:j1≠j2)(hb1:j1∉bor)(hb2:j2∉bor)(hl:ao.length<=lim)
  (he:∀a∈ao,∀G',iM g1 j1 j2 (bH a) (cE a) G'->eV rn bor k e G'=some (f a,G')):fM rn bor k nn kk (.tp [j1,j2]) it none e g=some (ao.map f,g1):=by
 have:=bN (c:=none) ao bH cE (λ_=>true) f hw hn hj1 Yx hj2 Yy eY hb1 hb2 hl (λ_ _ _ _=>rfl) λa ha _ G' hG=>he a ha G' hG
 rw[filter_all]at this;exact this
theorem zX{c:G->Option (Bool×G)}{b:G->Option (Fl×G)}(I:Nat->G->Prop)(step:∀m g,I (m+1) g->∃g1 g2,c g=some (true,g1)/\b g1=some (.nx,g2)/\I m g2)(fin:∀g,I 0 g->c g=some (false,g)) :
  ∀m N g,m<N->I m g->∃g',I 0 g'/\DT c b N g=some (.nx,g')
 | 0,N+1,g,_,h=>⟨g,h,by unfold DT;rw[fin g h]⟩
 |m+1,N+1,g,hN,h=>by
  obtain⟨g1,g2,q1,q2,q3⟩:=step m g h;obtain⟨g',w1,w2⟩:=zX I step fin m N g2 ⋯ q3;exact⟨g',w1,by unfold DT;rw[q1];dsimp only;rw[q2];exact w2⟩
theorem cB{α:Type}{T:Tg}{b:G->Option (Fl×G)}(cZ:α->D)(I:List α->G->Prop)(step:∀a l g,I (a::l) g->∃g1 g2,T.set (cZ a) g=some g1/\b g1=some (.nx,g2)/\I l g2):∀l g,I l g->∃g',I [] g'/\eK T b (l.map cZ) g=some (.nx,g')
 | [],g,h=>⟨g,h,rfl⟩
 |a::l,g,h=>by
  obtain⟨g1,g2,q1,q2,q3⟩:=step a l g h;obtain⟨g',w1,w2⟩:=cB cZ I step l g2 q3;exact⟨g',w1,by rw[List.map_cons];unfold eK;rw[q1];dsimp only;rw[q2];exact w2⟩
end
theorem ints_map(l:List Int):aP (l.map .int)=some l:=by
 induction l with
 |nil=>rfl
 |cons a l ih=>simp[aP,ih]
theorem zY(l:List Bool):qN (l.map .bl)=some l:=by
 induction l with
 |nil=>rfl
 |cons a l ih=>simp[qN,ih]
theorem qh(l:List (List Int))(h:∀x∈l,x≠[]):dP (l.map λx=>.tup (x.map .int))=some l:=by
 induction l with
 |nil=>rfl
 |cons a l ih=>
  have ha:=h a bP;cases a with
  |nil=>exact absurd rfl ha
  |cons x a=>
   have:=ints_map (x::a);simp only[List.map_cons]at this ⊢
   simp only[dP,this,ih λy hy=>h y (aS _ hy)]
theorem se(a:List Int)(l:List (List Int)):aP ((a::l).map λ(x:List Int)=>.tup (x.map .int))=none:=rfl
theorem qi(l:List D):jd .len [.tup l]=some (.dat (.int l.length)):=rfl
theorem HN(l:List D):jd .len [.lst l]=some (.dat (.int l.length)):=rfl
theorem qj(l:List D):jd .len [.fix l]=some (.dat (.int l.length)):=rfl
theorem CW(l:List D):jd .list [.tup l]=some (.new l):=rfl
theorem CZ(l:List D):jd .list [.lst l]=some (.new l):=rfl
theorem yO(l:List D):jd .tuple [.lst l]=some (.dat (.tup l)):=rfl
theorem yP(l:List D):jd .tuple [.tup l]=some (.dat (.tup l)):=rfl
theorem MN(i j:Int):jd .max [.int i,.int j]=some (.dat (.int (if j > i then j else i))):=rfl
theorem MP(i j:Int):jd .min [.int i,.int j]=some (.dat (.int (if j<i then j else i))):=rfl
theorem qk(l:List Bool):jd .all [.lst (l.map .bl)]=some (.dat (.bl (l.all id))):=by simp only[jd,DR,zY]
theorem Ub(l:List Bool):jd .any [.lst (l.map .bl)]=some (.dat (.bl (l.any id))):=by simp only[jd,DR,zY]
theorem wG(l:List Int)(h:l.length<64):jd .sorted [.lst (l.map .int)]=some (.new ((bw l).map .int)):=by simp only[jd,DR,bF,ints_map,h,u7]
theorem nu(l:List Int)(h:l.length<64):jd .sorted [.tup (l.map .int)]=some (.new ((bw l).map .int)):=by simp only[jd,DR,bF,ints_map,h,u7]
theorem HQ(l:List Int):jd .sum [.tup (l.map .int)]=some (.dat (.int l.sum)):=by simp only[jd,DR,bF,ints_map]
theorem wH(l:List Int):jd .sum [.lst (l.map .int)]=some (.dat (.int l.sum)):=by simp only[jd,DR,bF,ints_map]
theorem iN(l:List (List Int))(hn:∀x∈l,x≠[])(h:l.length<64):jd .sorted [.lst (l.map λx=>.tup (x.map .int))]=some (.new ((bV cT l).map λx=>.tup (x.map .int))):=by
 cases l with
 |nil=>rfl
 |cons a l=>have e:=qh (a::l) hn;simp only[jd,DR,bF,se,e,h,u7]
theorem dz:∀a b:List Int,cR (a.map .int) (b.map .int)=decide (a=b)
 | [],[]=>rfl
 | [],_::_=>rfl
 |_::_,[]=>rfl
 |x::a,y::b=>by
  simp only[List.map_cons,cR,cD,dz a b,Bi,Cf];rfl
theorem dB(a:List Int):fc (a.map .int)=true:=by
 induction a with
 |nil=>rfl
 |cons x a ih=>simp[fc,gF,ih]
theorem fE(a:List Int):deps (a.map .int)=0:=by
 induction a with
 |nil=>rfl
 |cons x a ih=>simp[deps,dep,ih]
theorem sf(a b:List Int):kI (.tup (a.map .int)) (.tup (b.map .int))=true:=by simp[kI,gF,dB,dep,fE]
theorem ql(a b:List Int):kI (.lst (a.map .int)) (.lst (b.map .int))=true:=by simp[kI,gF,dB,dep,fE]
theorem Uc(a b:List Int):eU .Eq (.tup (a.map .int)) (.tup (b.map .int))=some (decide (a=b)):=by simp only[eU,sf,u7,cD,dz]
theorem Ud(a b:List Int):eU .NotEq (.tup (a.map .int)) (.tup (b.map .int))=some (!decide (a=b)):=by simp only[eU,sf,u7,cD,dz]
theorem Ue(a b:List Int):eU .Eq (.lst (a.map .int)) (.lst (b.map .int))=some (decide (a=b)):=by simp only[eU,ql,u7,cD,dz]
theorem HR(a b:List Int):eU .NotEq (.lst (a.map .int)) (.lst (b.map .int))=some (!decide (a=b)):=by simp only[eU,ql,u7,cD,dz]
theorem Ug(a b:Int):eU .Eq (.int a) (.int b)=some (decide (a=b)):=rfl
theorem HS(a b:Int):eU .NotEq (.int a) (.int b)=some (!decide (a=b)):=rfl
theorem Uh(a b:Int):eU .Lt (.int a) (.int b)=some (decide (a<b)):=rfl
theorem Ui(a b:Int):eU .LtE (.int a) (.int b)=some (decide (a<=b)):=rfl
theorem Uj(a b:Int):eU .Gt (.int a) (.int b)=some (decide (a > b)):=rfl
theorem Uk(a b:Int):eU .GtE (.int a) (.int b)=some (decide (a ≥ b)):=rfl
theorem MT(a b:Int):qR .Add (.int a) (.int b)=some (.dat (.int (a+b))):=rfl
theorem M7(a b:Int):qR .Sub (.int a) (.int b)=some (.dat (.int (a - b))):=rfl
theorem ix_t(l:List D)(i:Int):n6 (.tup l) (.int i)=L2.fB l i:=rfl
theorem ix_l(l:List D)(i:Int):n6 (.lst l) (.int i)=L2.fB l i:=rfl
theorem ix_f(l:List D)(i:Int):n6 (.fix l) (.int i)=L2.fB l i:=rfl
theorem kQ{α:Type}(l:List α)(i:Nat)(h:i<l.length):L2.fB l (i:Int)=some l[i]:=by unfold L2.fB L2.nR;rw[eP ⋯,eP ⋯];simp[h]
theorem wI(l:List Int)(i:Nat)(h:i<l.length):L2.fB (l.map D.int) (i:Int)=some (.int l[i]):=by
 rw[kQ _ _ (by simpa using h)]
 simp
theorem is_tup(l:List D):ug (xx (.tup l)) "tuple"=true:=rfl
theorem Ul(i:Int):ug (xx (.int i)) "int"=true:=rfl
theorem HW(i:Int):ug (xx (.int i)) "bool"=false:=rfl
theorem iO(m:Nat):bU 0 m=((List.range m).map λ(k:Nat)=>(k:Int)).map .int:=by simp[bU]
theorem au(m:Nat)(h:m<=1000):m<=lim:=hV h ⋯
theorem aD(i:Int)(h:0<=i/\i<=1000):Cz i=true:=by unfold Cz;simp only[c8,b8];lia
section
theorem aE{fx:Fx}{d:D}(h:fx.np=1):bO rn fx k [.dat d] g1=(aU rn k fx [d]).map λr=>(r,g1):=mj (ds:=[d]) h.symm
theorem aM{fx:Fx}{d e:D}(h:fx.np=2):bO rn fx k [.dat d,.dat e] g1=(aU rn k fx [d,e]).map λr=>(r,g1):=mj (ds:=[d,e]) h.symm
theorem bh{fx:Fx}{d e f:D}(h:fx.np=3):bO rn fx k [.dat d,.dat e,.dat f] g1=(aU rn k fx [d,e,f]).map λr=>(r,g1):=mj (ds:=[d,e,f]) h.symm
end
structure ju(fns:List Fx)(rn:Nat->Rn):Prop where
 e:∀(n:Nat) (bor:List Nat) (k:Nat) (x:Ex) (g:G),(rn (n+1)).e bor k x g=bx (rn n) bor k fns x g
 t:∀(n:Nat) (bor:List Nat) (k:Nat) (x:Ex) (g:G),(rn (n+1)).t bor k x g=stepT (rn n) bor k x g
 b:∀(n:Nat) (bor:List Nat) (k:Nat) (x:List Sm) (g:G),(rn (n+1)).b bor k x g=g6 (rn n) bor k x g
 x:∀(n:Nat) (bor:List Nat) (k:Nat) (x:Ex) (g:G),(rn (n+1)).x bor k x g=G6 (rn n) bor k fns x g
 xt:∀(n:Nat) (bor:List Nat) (k:Nat) (x:Ex) (g:G),(rn (n+1)).xt bor k x g=yD (rn n) bor k x g
 xb:∀(n:Nat) (bor:List Nat) (k:Nat) (x:List Sm) (g:G),(rn (n+1)).xb bor k x g=yE (rn n) bor k x g
theorem M8(fns:List Fx):ju fns (run fns):=⟨λ_ _ _ _ _=>rfl,λ_ _ _ _ _=>rfl,λ_ _ _ _ _=>rfl,λ_ _ _ _ _=>rfl,λ_ _ _ _ _=>rfl,λ_ _ _ _ _=>rfl⟩
def zZ(rn:Rn)(k:Nat)(fx:Fx)(ds:List D):Option Nat:=match rn.xb [] k fx.body (fZ fx.n (VL ds))with
 |some (ci,_)=>some ci
 |none=>none
abbrev evZ:=And.intro @is_tup (And.intro @Ul (And.intro @HW (And.intro @qi (And.intro @HN (And.intro @CW (And.intro @CZ (And.intro @yO (And.intro @yP (And.intro @MN (And.intro @MP (And.intro @qk (And.intro @HQ (And.intro @wH (And.intro @Uc (And.intro @Ud (And.intro @Ue (And.intro @HR (And.intro @Ug (And.intro @HS (And.intro @Uh (And.intro @Ui (And.intro @Uj (And.intro @Uk (And.intro @MT (And.intro @M7 (And.intro @ix_t (And.intro @ix_l @ix_f)))))))))))))))))))))))))))
abbrev unfZ{fns rn}(U:ju fns rn):=And.intro U.e (And.intro U.t (And.intro U.b (And.intro U.x (And.intro U.xt U.xb))))
end Ev
local macro_rules | `(tactic|simp! [$u:term,$ls,*])=>`(tactic|simp[-List.map_map,-List.map_cons,-List.map_nil,Ev.unfZ $u,Ev.evZ,Ev.G6,Ev.yD,Ev.S3,Ev.yE,Ev.xArgs,Ev.g6,Ev.aR,Ev.bx,Ev.stepT,Ev.argsR,Ev.nk,Ev.eV,Ev.toD,Ev.norm,Ev.pk,Ev.qM,Ev.fZ,Ev.gR,Ev.VL,Ev.G4,Ev.X5,Ev.v5,Ev.G5,Ev.DS,Ev.Ld,$ls,*])
local macro_rules | `(~~~$x)=>`(Ev.D.tup (List.map Ev.D.int $x))
namespace Ev
noncomputable def cW:Fx:=⟨2,4,[(.ite (.ix (.slot 0) (.val (.int 1))) [(.set 2 (.bin .Mod (.ix (.slot 0) (.val (.int 0))) (.slot 1))),(.item 0 (.val (.int 0)) (.bin .FloorDiv (.ix (.slot 0) (.val (.int 0))) (.slot 1))),(.ret (.slot 2))] []),(.item 0 (.val (.int 0)) (.bin .Mod (.bin .Add (.bin .Mult (.ix (.slot 0) (.val (.int 0))) (.val (.int 48271))) (.val (.int 29))) (.val (.int 2147483647)))),(.set 3 (.bin .Mod (.bin .Add (.bin .Add (.bin .Mult (.ix (.slot 0) (.val (.int 0))) (.ix (.slot 0) (.val (.int 0)))) (.bin .Mult (.val (.int 39373)) (.ix (.slot 0) (.val (.int 0))))) (.val (.int 7))) (.val (.int 2147483629)))),(.set 3 (.bin .Mod (.bin .Add (.bin .Mult (.slot 3) (.slot 3)) (.bin .Mult (.val (.int 16807)) (.slot 3))) (.val (.int 2147483587)))),(.ret (.bin .Mod (.bin .FloorDiv (.slot 3) (.val (.int 8))) (.slot 1)))]⟩
noncomputable def nQ(ti:Nat):Fx:=⟨2,4,[(.set 2 (.blt .list [(.slot 1)])),(.set 3 (.lst [])),(.while (.cmp .NotEq (.slot 2) (.lst [])) [(.expr (.append 3 (.gZ 2 (.call ti [(.slot 0),(.blt .len [(.slot 2)])]))))]),(.ret (.slot 3))]⟩
noncomputable def nB(ti mi:Nat):Fx:=⟨2,5,[(.set 2 (.call mi [(.slot 0),(.cU (.slot 1))])),(.ite (.cmp .Gt (.call ti [(.slot 0),(.val (.int 3))]) (.val (.int 0))) [(.ret (.blt .tuple [(.slot 2)]))] []),(.set 3 (.cU (.slot 1))),(.loop (.nm 4) (.nP (.val (.int 0)) (.bin .Sub (.slot 1) (.val (.int 1))) (.val (.int 2))) [(.ite (.cmp .Eq (.call ti [(.slot 0),(.val (.int 2))]) (.val (.int 1))) [(.items2 3 (.ix (.slot 2) (.slot 4)) 3 (.ix (.slot 2) (.bin .Add (.slot 4) (.val (.int 1)))) (.tup [(.ix (.slot 2) (.bin .Add (.slot 4) (.val (.int 1)))),(.ix (.slot 2) (.slot 4))]))] [])]),(.ret (.blt .tuple [(.slot 3)]))]⟩
def qm:Fx:=⟨2,2,[(.ite (.cmp .Lt (.slot 1) (.blt .len [(.slot 0)])) [(.ret (.ix (.slot 0) (.slot 1)))] []),(.ret (.val (.int 0)))]⟩
noncomputable def qq(ci:Nat):Fx:=⟨2,3,[(.set 2 (.call ci [(.slot 0),(.slot 1)])),(.ite (.cmp .GtE (.slot 2) (.bin .Pow (.val (.int 10)) (.val (.int 18)))) [(.ret (.lst [(.bin .Sub (.slot 2) (.bin .Pow (.val (.int 10)) (.val (.int 18)))),(.val (.bl true))]))] []),(.ret (.lst [(.bin .Mod (.slot 2) (.val (.int 2147483647))),(.val (.bl false))]))]⟩
def Tn(m:Nat)(t:List Int):Prop:=bw t=(List.range m).map λ(k:Nat)=>(k:Int)
theorem Tn.length{m:Nat}{t:List Int}(h:Tn m t):t.length=m:=by have:=(bM t).length_eq;rw[h]at this;simpa using this.symm
theorem Tn.mem{m:Nat}{t:List Int}(h:Tn m t){x:Int}:x∈t ↔ 0<=x/\x<m:=by
 rw[<- (bM t).mem_iff,h,fA];constructor
 . rintro⟨k,hk,rfl⟩;have:=lS.mp hk;lia
 . rintro⟨h1,h2⟩;exact⟨x.toNat,lS.mpr ⋯,by lia⟩
theorem Tn.of{m:Nat}{t:List Int}(h:t.Perm ((List.range m).map λ(k:Nat)=>(k:Int))):Tn m t:=by refine (jK h.symm ?_).symm;rw[List.pairwise_map];exact List.pairwise_lt_range.imp λh=>by lia
theorem Tn.perm{m:Nat}{t:List Int}(h:Tn m t):t.Perm ((List.range m).map λ(k:Nat)=>(k:Int)):=by rw[<- h];exact (bM t).symm
noncomputable def gt(t:List Int)(i:Int):Int:=t.getD i.toNat 0
theorem dZ{t:List Int}{i:Int}(h:0<=i/\i<t.length):L2.fB (t.map D.int) i=some (.int (gt t i)):=by
 obtain⟨n,rfl⟩:∃n:Nat,i=n:=⟨i.toNat,by lia⟩
 rw[wI t n ⋯];simp[gt,(by lia:n<t.length)]
noncomputable def nums(m:Nat):List Int:=(List.range m).map λ(k:Nat)=>(k:Int)
theorem eL{m:Nat}{x:Int}:x∈nums m ↔ 0<=x/\x<m:=by
 unfold nums;rw[fA];constructor
 . rintro⟨k,hk,rfl⟩;have:=lS.mp hk;lia
 . rintro⟨h1,h2⟩;exact⟨x.toNat,lS.mpr ⋯,by lia⟩
theorem iP(m:Nat):(nums m).length=m:=by simp[nums]
theorem Tn.gj{m:Nat}{t:List Int}(h:Tn m t){i:Int}(hi:0<=i/\i<m):0<=gt t i/\gt t i<m:=by
 refine h.mem.mp ?_;have hl:=h.length;have:i.toNat<t.length:=by lia
 unfold gt;rw[dE,gL this];exact BY _
theorem Tn.nodup{m:Nat}{t:List Int}(h:Tn m t):t.Nodup:=by refine (h.perm.nodup_iff).mpr ?_;rw[AM,List.pairwise_map];exact List.nodup_range.imp λh=>by lia
theorem Tn.inj{m:Nat}{t:List Int}(h:Tn m t){i j:Int}(hi:0<=i/\i<m)(hj:0<=j/\j<m)(e:gt t i=gt t j):i=j:=by
 have hl:=h.length;have h1:i.toNat<t.length:=by lia
 have h2:j.toNat<t.length:=by lia
 unfold gt at e;rw[dE,gL h1,dE,gL h2]at e;have:=(List.getElem_inj h.nodup).mp (show t[i.toNat]=t[j.toNat]from e)
 lia
theorem mz{α β:Type}{f:α->β}{l:List α}(h:l.Nodup)(hf:∀x∈l,∀y∈l,f x=f y->x=y):(l.map f).Nodup:=by
 induction l with
 |nil=>exact vS
 |cons a l ih=>
  obtain⟨h1,h2⟩:=fN.mp h;rw[List.map_cons];refine fN.mpr ⟨λhm=>?_,ih h2 λx hx y hy=>hf x (aS _ hx) y (aS _ hy)⟩
  obtain⟨b,hb,e⟩:=fA.mp hm;have:=hf b (aS _ hb) a bP e;exact h1 (this▸hb)
theorem kT(m:Nat):Tn m (nums m):=Tn.of (oI _)
theorem M9{m:Nat}{i:Int}(h:0<=i/\i<m):gt (nums m) i=i:=by
 have:i.toNat<m:=by lia
 unfold gt nums;simp[this];lia
theorem uC{m:Nat}{b:List Int}(h:b.length=m):(nums m).map (gt b)=b:=by
 subst h;refine List.ext_getElem (by simp[nums]) λi h1 h2=>?_
 simp[nums,gt,h2]
theorem aL{rn:Rn}{bor:List Nat}{k:Nat}{st:Sm}{rest:List Sm}{g g1:G}(h:aR rn bor k st g=some (.nx,g1)):g6 rn bor k (st::rest) g=g6 rn bor k rest g1:=by
 conv=>lhs;unfold g6
 rw[h]
noncomputable abbrev St(s:Int)(fl:Bool):Slot:=.own [.int s,.bl fl]
theorem ji(a b:Int)(h:0<b):qR .Mod (.int a) (.int b)=some (.dat (.int (a % b))):=by simp[qR,kH,h]
theorem gU(a b:Int)(h:0<b/\b<1073741824):qR .FloorDiv (.int a) (.int b)=some (.dat (.int (a / b))):=by simp[qR,kH,h]
theorem fu(a b:Int)(h:(-(2 ^ 64)<a/\a<2 ^ 64)\/(-(2 ^ 64)<b/\b<2 ^ 64)):qR .Mult (.int a) (.int b)=some (.dat (.int (a * b))):=by
 have:jO a b=true:=by unfold jO;simp only[n0,c8,b8];exact h
 simp[qR,LW,this]
section
variable{ti mi:Nat}(U:ju fns rn)(hT:fns[ti]?=some cW)
include U
theorem Um(s:Int)(fl:Bool)(m:Int)(hm:0<m/\m<1000):∃r s' s2 s3,0<=r/\r<m/\(rn (n+20)).b [0] k cW.body [St s fl,.dat (.int m),.no,.no]=some (.rt (.dat (.int r)),[St s' fl,.dat (.int m),s2,s3]):=by
 have i0:L2.fB [D.int s,D.bl fl] 0=some (.int s):=rfl;have i1:L2.fB [D.int s,D.bl fl] 1=some (.bl fl):=rfl;have x0':L2.nR 2 0=some 0:=rfl;cases fl with
 |true=>refine⟨s % m,s / m,.dat (.int (s % m)),.no,Cn _ ⋯,Bn _ hm.1,?_⟩;unfold cW;simp! [U,i0,i1,x0',ji _ _ hm.1,gU _ _ (show 0<m/\m<1073741824 by lia)]
 |false=>
  generalize hs1:(s * 48271+29) % 2147483647=s1;have h1:0<=s1/\s1<2147483647:=by rw[<- hs1];exact⟨Cn _ ⋯,Bn _ ⋯⟩
  have j0:L2.fB [D.int s1,D.bl false] 0=some (.int s1):=rfl;generalize hs2:(s1 * s1+39373 * s1+7) % 2147483629=s2;have h2:0<=s2/\s2<2147483629:=by rw[<- hs2];exact⟨Cn _ ⋯,Bn _ ⋯⟩
  generalize hs3:(s2 * s2+16807 * s2) % 2147483587=s3;refine⟨s3 / 8 % m,s1,.no,.dat (.int s3),Cn _ ⋯,Bn _ hm.1,?_⟩;unfold cW;simp! [U,i0,i1,x0',ji,fu s 48271 (.inr ⋯),hs1,j0,fu s1 s1 (.inl ⋯),fu 39373 s1 (.inl ⋯),hs2,fu s2 s2 (.inl ⋯),fu 16807 s2 (.inl ⋯),hs3,gU _ _ (show (0:Int)<8/\(8:Int)<1073741824 by decide),hm.1]
theorem gW{i:Nat}{s:Int}{fl:Bool}{m:Int}(hi:g[i]?=some (St s fl))(hm:0<m/\m<1000):∃r s',0<=r/\r<m/\bO (rn (n+20)) cW k [.var i,.dat (.int m)] g=some (.dat (.int r),g.set i (St s' fl)):=by
 obtain⟨r,s',s2,s3,h1,h2,h⟩:=Um U (n:=n) (k:=k) s fl m hm;refine⟨r,s',h1,h2,?_⟩;have hp:fZ cW.n [St s fl,.dat (.int m)]=[St s fl,.dat (.int m),.no,.no]:=rfl;unfold bO;simp only[vars,eG,hi,List.map_cons,List.map_nil];rw[eP ⟨rfl,by simp⟩,hp,h]
 rfl
omit U in
theorem HX(a:List Int):eU .NotEq (.lst (a.map .int)) (.lst [])=some (!decide (a=[])):=HR a []
omit U in
theorem yQ{l i:Nat}(h:i<l):L2.nR l (i:Int)=some i:=by unfold L2.nR;rw[eP ⋯,eP ⋯];simp
omit U in
theorem sr:∀(l:List Int) (j:Nat),(l.map D.int).eraseIdx j=(l.eraseIdx j).map .int
 | [],_=>rfl
 |_::_,0=>rfl
 |a::l,j+1=>by simp[sr l j]
omit U in
theorem wJ:∀(l:List Int) (j:Nat) (h:j<l.length),([l[j]]++l.eraseIdx j).Perm l
 |a::l,0,_=>oI _
 |a::l,j+1,h=>(List.Perm.swap a _ _).trans ((wJ l j (by simpa using h)).cons a)
include hT in
theorem HY{i:Nat}{s:Int}{fl:Bool}(th:List Int)(hi:g[i]?=some (St s fl))(hl:th.length<=10):∃(row:List Int) (s':Int),row.Perm th/\bO (rn (n+50)) (nQ ti) (k+1) [.var i,.dat (.lst (th.map .int))] g=some (.new (row.map .int),g.set i (St s' fl)):=by
 have loop:=zX (c:=(rn (n+49)).t [0] (k+1) (.cmp .NotEq (.slot 2) (.lst []))) (b:=(rn (n+49)).b [0] (k+1) [(.expr (.append 3 (.gZ 2 (.call ti [(.slot 0),(.blt .len [(.slot 2)])]))))])
  (I:=λm g=>∃(s:Int) (cA fQ:List Int),cA.length=m/\(fQ++cA).Perm th/\g=[St s fl,.dat (.lst (th.map .int)),.own (cA.map .int),.own (fQ.map .int)])
  (step:=λm g h=>by
   obtain⟨s,cA,fQ,h1,h2,rfl⟩:=h;have aJ:=h2.length_eq;rw[dL]at aJ;obtain⟨r,s',q1,q2,q3⟩:=gW U (n:=n+25) (k:=k) (g:=[St s fl,.dat (.lst (th.map .int)),.own (cA.map .int),.own (fQ.map .int)]) (i:=0) (s:=s) (fl:=fl) (m:=(cA.length:Int)) rfl ⋯;obtain⟨j,rfl⟩:∃j:Nat,r=j:=⟨r.toNat,by lia⟩
   have hj:j<cA.length:=by lia
   have e1:(cA.map D.int)[j]?=some (.int cA[j]):=by simp[hj]
   have e2:(cA.map D.int).eraseIdx j=(cA.eraseIdx j).map .int:=sr cA j;have z1:cA.length<lim:=fI (l5 _) (au (cA.length+1) ⋯);have z2:fQ.length<lim:=fI (l5 _) (au (fQ.length+1) ⋯);have eY:cA≠[]:=λe=>by rw[e]at hj;exact absurd hj (AG _)
   refine⟨[St s fl,.dat (.lst (th.map .int)),.own (cA.map .int),.own (fQ.map .int)],[St s' fl,.dat (.lst (th.map .int)),.own ((cA.eraseIdx j).map .int),.own ((fQ++[cA[j]]).map .int)],by simp! [U,HX,eY],?_,s',cA.eraseIdx j,fQ++[cA[j]],?_,?_,rfl⟩
   . have RW:bO (rn (n+45)) cW k [.var 0,.dat (.int (cA.length:Int))] [St s fl,.dat (.lst (th.map .int)),.own (cA.map .int),.own (fQ.map .int)]=some (.dat (.int j),[St s' fl,.dat (.lst (th.map .int)),.own (cA.map .int),.own (fQ.map .int)]):=q3;simp! [U,hT,RW,yQ hj,e1,e2,z1,z2];simp
   . rw[List.length_eraseIdx_of_lt hj];lia
   .
    refine List.Perm.trans ?_ h2;rw[v3];refine List.Perm.append_left _ ?_;exact wJ cA j hj)
  (fin:=λg h=>by
   obtain⟨s,cA,fQ,h1,h2,rfl⟩:=h;have:cA=[]:=List.eq_nil_of_length_eq_zero h1;simp! [U,HX,this])
 obtain⟨g',⟨s',cA,fQ,q1,q2,rfl⟩,q3⟩:=loop th.length 100000 [St s fl,.dat (.lst (th.map .int)),.own (th.map .int),.own []] ⋯ ⟨s,th,[],rfl,by simp,rfl⟩
 have hnil:cA=[]:=List.eq_nil_of_length_eq_zero q1;subst hnil;rw[o4]at q2;refine⟨fQ,s',q2,?_⟩;have hp:fZ (nQ ti).n [St s fl,.dat (.lst (th.map .int))]=[St s fl,.dat (.lst (th.map .int)),.no,.no]:=rfl;have body:(rn (n+50)).b [0] (k+1) (nQ ti).body [St s fl,.dat (.lst (th.map .int)),.no,.no]=some (.rt (.var 3),[St s' fl,.dat (.lst (th.map .int)),.own [],.own (fQ.map .int)]):=by unfold nQ;simp! [U,q3]
 unfold bO;simp only[vars,eG,hi,List.map_cons,List.map_nil];rw[eP ⟨rfl,by simp⟩,hp,body]
 rfl
omit U in
theorem Nb{m:Nat}{f:List Int}(h:Tn m f){p q:Int}(hp:0<=p/\p<m)(hq:0<=q/\q<m)(eY:p≠q)(e1:gt f p=p)(e2:gt f q=q) :
  Tn m ((f.set p.toNat q).set q.toNat p)/\∀x:Int,0<=x/\x<m->x≠p->x≠q->gt ((f.set p.toNat q).set q.toNat p) x=gt f x:=by
 have hl:=h.length;have hget:∀x:Int,0<=x/\x<m->gt ((f.set p.toNat q).set q.toNat p) x=if x=q then p else if x=p then q else gt f x:=λx hx=>by
  have hx':x.toNat<f.length:=by lia
  unfold gt;rw[dE,List.getElem?_set,List.getElem?_set];by_cases Py:x=q
  . subst Py;simp[hx']
  .
   have n1:q.toNat≠x.toNat:=by lia
   rw[eQ n1,eQ Py];by_cases Uo:x=p
   . subst Uo;simp[hx']
   .
    have n2:p.toNat≠x.toNat:=by lia
    rw[eQ n2,eQ Uo,dE]
 refine⟨?_,λx hx n1 n2=>by rw[hget x hx,eQ n2,eQ n1]⟩
 have aJ:((f.set p.toNat q).set q.toNat p).length=m:=by simp[hl]
 have em:((f.set p.toNat q).set q.toNat p)=(nums m).map (gt ((f.set p.toNat q).set q.toNat p)):=(uC aJ).symm;have ex:∀x∈nums m,gt ((f.set p.toNat q).set q.toNat p) x=(λy:Int=>if y=p then q else if y=q then p else y) (gt f x):=λx hx=>by
  have hx':=eL.mp hx;rw[hget x hx'];dsimp only;by_cases Py:x=q
  . rw[eP Py,Py,e2,eQ (tP eY),eP rfl]
  .
   by_cases Uo:x=p
   . rw[eQ Py,eP Uo,Uo,e1,eP rfl]
   .
    have a1:gt f x≠p:=λz=>Uo (h.inj hx' hp (z.trans e1.symm))
    have a2:gt f x≠q:=λz=>Py (h.inj hx' hq (z.trans e2.symm))
    rw[eQ Py,eQ Uo,eQ a1,eQ a2]
 rw[em,kS ex];have e3:(nums m).map (λx=>(λy:Int=>if y=p then q else if y=q then p else y) (gt f x))=f.map λy:Int=>if y=p then q else if y=q then p else y:=by
  conv=>rhs;rw[<- uC hl,List.map_map]
  rfl
 rw[e3];refine Tn.of ?_;refine (h.perm.map _).trans ?_;have inj:∀x y:Int,(if x=p then q else if x=q then p else x)=(if y=p then q else if y=q then p else y)->x=y:=λx y z=>by
  split at z <;> split at z <;> (try split at z) <;> (try split at z) <;> lia
 refine (AO (mz (kT m).nodup λx _ y _ z=>inj x y z) (kT m).nodup).mpr λx=>?_
 rw[fA];constructor
 .
  rintro⟨y,hy,rfl⟩;have:=eL.mp hy;refine eL.mpr ?_;split
  . exact hq
  .
   split
   . exact hp
   . exact this
 .
  intro hx;have hx':=eL.mp hx;refine⟨if x=p then q else if x=q then p else x,eL.mpr ?_,?_⟩
  .
   split
   . exact hq
   .
    split
    . exact hp
    . exact hx'
  .
   by_cases z1:x=p
   . rw[eP z1,eQ (tP eY),eP rfl];exact z1.symm
   .
    by_cases z2:x=q
    . rw[eQ z1,eP z2,eP rfl];exact z2.symm
    . rw[eQ z1,eQ z2,eQ z1,eQ z2]
end
section
variable{ti mi:Nat}(U:ju fns rn)(hT:fns[ti]?=some cW)(hM:fns[mi]?=some (nQ ti))
include U hT hM
theorem Nc{i:Nat}{s:Int}{fl:Bool}(m:Nat)(hm:1<=m/\m<=6)(hi:g[i]?=some (St s fl)):∃(t:List Int) (s':Int),Tn m t/\bO (rn (n+80)) (nB ti mi) (k+2) [.var i,.dat (.int m)] g=some (.dat (~~~t),g.set i (St s' fl)):=by
 have hr:bU 0 m=(nums m).map .int:=iO m;have hl:=iP m;obtain⟨row,s1,wK,q1⟩:=HY U hT (n:=n+28) (k:=k) (g:=[St s fl,.dat (.int m),.no,.no,.no]) (i:=0) (s:=s) (fl:=fl) (nums m) rfl ⋯;have hR:Tn m row:=Tn.of wK;have hRl:=hR.length;have DK:bO (rn (n+78)) (nQ ti) (k+1) [.var 0,.dat (.lst ((nums m).map .int))] [St s fl,.dat (.int m),.no,.no,.no]=some (.new (row.map .int),[St s1 fl,.dat (.int m),.no,.no,.no]):=q1;have eu:aR (rn (n+79)) [0] (k+2) (.set 2 (.call mi [(.slot 0),(.cU (.slot 1))])) [St s fl,.dat (.int m),.no,.no,.no]=some (.nx,[St s1 fl,.dat (.int m),.own (row.map .int),.no,.no]):=by simp! [U,hM,DK,aD m ⋯,au m ⋯,hr]
 obtain⟨r,s2,r1,r2,q2⟩:=gW U (n:=n+57) (k:=k+1) (g:=[St s1 fl,.dat (.int m),.own (row.map .int),.no,.no]) (i:=0) (s:=s1) (fl:=fl) (m:=3) rfl ⋯;have FQ:bO (rn (n+77)) cW (k+1) [.var 0,.dat (.int 3)] [St s1 fl,.dat (.int m),.own (row.map .int),.no,.no]=some (.dat (.int r),[St s2 fl,.dat (.int m),.own (row.map .int),.no,.no]):=q2;have hp:fZ (nB ti mi).n [St s fl,.dat (.int m)]=[St s fl,.dat (.int m),.no,.no,.no]:=rfl;have fin:∀(t:List Int) (s':Int) (a b c:Slot),Tn m t->(rn (n+80)).b [0] (k+2) (nB ti mi).body [St s fl,.dat (.int m),.no,.no,.no]=some (.rt (.dat (~~~t)),[St s' fl,.dat (.int m),a,b,c])->∃(t:List Int) (s':Int),Tn m t/\bO (rn (n+80)) (nB ti mi) (k+2) [.var i,.dat (.int m)] g=some (.dat (~~~t),g.set i (St s' fl)):=λt s' a b c ht hb=>by
  refine⟨t,s',ht,?_⟩;unfold bO;simp only[vars,eG,hi,List.map_cons,List.map_nil];rw[eP ⟨rfl,by simp⟩,hp,hb]
  rfl
 by_cases hr0:r > 0
 . refine fin row s2 (.own (row.map .int)) .no .no hR ?_;unfold nB;rw[U.b];rw[aL eu];simp! [U,hT,FQ,hr0]
 .
  have aN:aR (rn (n+79)) [0] (k+2) (.ite (.cmp .Gt (.call ti [(.slot 0),(.val (.int 3))]) (.val (.int 0))) [(.ret (.blt .tuple [(.slot 2)]))] []) [St s1 fl,.dat (.int m),.own (row.map .int),.no,.no]=some (.nx,[St s2 fl,.dat (.int m),.own (row.map .int),.no,.no]):=by simp! [U,hT,FQ,hr0]
  have eX:aR (rn (n+79)) [0] (k+2) (.set 3 (.cU (.slot 1))) [St s2 fl,.dat (.int m),.own (row.map .int),.no,.no]=some (.nx,[St s2 fl,.dat (.int m),.own (row.map .int),.own ((nums m).map .int),.no]):=by simp! [U,aD m ⋯,au m ⋯,hr]
  generalize hN:lW 0 ((m:Int) - 1) 2=N;have Sq:∀j,j<N->2 * j+1<m:=λj hj=>by
   rw[<- hN]at hj;unfold lW at hj;split at hj
   . lia
   . lia
  have loop:=cB (T:=.nm 4) (b:=(rn (n+79)).b [0] (k+2) [(.ite (.cmp .Eq (.call ti [(.slot 0),(.val (.int 2))]) (.val (.int 1))) [(.items2 3 (.ix (.slot 2) (.slot 4)) 3 (.ix (.slot 2) (.bin .Add (.slot 4) (.val (.int 1)))) (.tup [(.ix (.slot 2) (.bin .Add (.slot 4) (.val (.int 1)))),(.ix (.slot 2) (.slot 4))]))] [])]) (λ(j:Nat)=>D.int ((j:Int) * 2))
   (I:=λl g=>∃(j:Nat) (s:Int) (f:List Int) (s4:Slot),l=List.range' j (N - j)/\Tn m f/\(∀p:Nat,2 * j<=p->p<m->gt f (gt row p)=gt row p)/\g=[St s fl,.dat (.int m),.own (row.map .int),.own (f.map .int),s4])
   (step:=λa l g h=>by
    obtain⟨j,s,f,s4,h1,h2,h3,rfl⟩:=h;have hjN:j<N:=by
     rcases sB j N with h |h
     . exact h
     . rw[AJ h]at h1;cases h1
    have hc:List.range' j (N - j)=j::List.range' (j+1) (N - (j+1)):=by rw[show N - j=(N - (j+1))+1 by lia,xI]
    rw[hc]at h1;injection h1 with e1 e2;subst e1 e2;have hj2:=Sq a hjN;obtain⟨z,hz⟩:∃z:Int,z=(a:Int) * 2:=⟨_,rfl⟩;rw[<- hz];obtain⟨r,s',r1,r2,q⟩:=gW U (n:=n+56) (k:=k+1) (g:=[St s fl,.dat (.int m),.own (row.map .int),.own (f.map .int),.dat (.int z)]) (i:=0) (s:=s) (fl:=fl) (m:=2) rfl ⋯;have q':bO (rn (n+76)) cW (k+1) [.var 0,.dat (.int 2)] [St s fl,.dat (.int m),.own (row.map .int),.own (f.map .int),.dat (.int z)]=some (.dat (.int r),[St s' fl,.dat (.int m),.own (row.map .int),.own (f.map .int),.dat (.int z)]):=q;by_cases hr1:r=1
    .
     have hfl:=h2.length;have p1:=hR.gj (i:=((2 * a:Nat):Int)) ⋯;have p2:=hR.gj (i:=((2 * a+1:Nat):Int)) ⋯;have eY:gt row ((2 * a:Nat):Int)≠gt row ((2 * a+1:Nat):Int):=λz=>by have:=hR.inj ⋯ ⋯ z;lia
     obtain⟨x1,x2⟩:=Nb h2 p1 p2 eY (h3 (2 * a) ⋯ ⋯) (h3 (2 * a+1) ⋯ ⋯);have a1:L2.fB (row.map D.int) z=some (.int (gt row ((2 * a:Nat):Int))):=by rw[hz,show (a:Int) * 2=((2 * a:Nat):Int)by lia];exact dZ ⋯
     have a2:L2.fB (row.map D.int) (z+1)=some (.int (gt row ((2 * a+1:Nat):Int))):=by rw[hz,show (a:Int) * 2+1=((2 * a+1:Nat):Int)by lia];exact dZ ⋯
     have n1:∀p:Nat,2 * (a+1)<=p->p<m->gt row p≠gt row ((2 * a:Nat):Int)/\gt row p≠gt row ((2 * a+1:Nat):Int):=λp h1 h2=>⟨λz=>by have:=hR.inj ⋯ ⋯ z;lia,λz=>by have:=hR.inj ⋯ ⋯ z;lia⟩
     generalize gt row ((2 * a:Nat):Int)=p at p1 eY x1 x2 a1 n1;generalize gt row ((2 * a+1:Nat):Int)=q at p2 eY x1 x2 a2 n1;obtain⟨pn,rfl⟩:∃pn:Nat,p=pn:=⟨p.toNat,by lia⟩
     obtain⟨qn,rfl⟩:∃qn:Nat,q=qn:=⟨q.toNat,by lia⟩
     refine⟨[St s fl,.dat (.int m),.own (row.map .int),.own (f.map .int),.dat (.int z)],[St s' fl,.dat (.int m),.own (row.map .int),.own (((f.set pn qn).set qn pn).map .int),.dat (.int z)],rfl,?_,a+1,s',_,_,rfl,(by simpa only[nN]using x1),?_,rfl⟩
     . have l1:L2.nR f.length (pn:Int)=some pn:=yQ ⋯;have l2:L2.nR f.length (qn:Int)=some qn:=yQ ⋯;simp! [U,hT,q',hr1,a1,a2,l1,l2,au 2 ⋯]
     . intro p hp1 hp2;have hx:=n1 p hp1 hp2;have hg:=x2 (gt row p) (hR.gj ⋯) hx.1 hx.2;simp only[nN]at hg;rw[hg];exact h3 p ⋯ hp2
    .
     refine⟨[St s fl,.dat (.int m),.own (row.map .int),.own (f.map .int),.dat (.int z)],[St s' fl,.dat (.int m),.own (row.map .int),.own (f.map .int),.dat (.int z)],rfl,?_,a+1,s',f,_,rfl,h2,λp hp=>h3 p ⋯,rfl⟩
     simp! [U,hT,q',hr1])
  obtain⟨g',⟨j,s3,f,s4,w1,w2,w3,rfl⟩,w4⟩:=loop (List.range' 0 N) [St s2 fl,.dat (.int m),.own (row.map .int),.own ((nums m).map .int),.no] ⟨0,s2,nums m,.no,rfl,kT m,λp _ hp=>M9 (hR.gj ⋯),rfl⟩
  refine fin f s3 (.own (row.map .int)) (.own (f.map .int)) s4 w2 ?_;have sd:qP 0 2 N=(List.range' 0 N).map λ(j:Nat)=>D.int ((j:Int) * 2):=by unfold qP;rw[pV];exact kS λj _=>by rw[CA]
  have o1:v7 ((m:Int) - 1)=true:=by unfold v7;simp;lia
  have o2:v7 0=true:=rfl;have o3:v7 2=true:=rfl;unfold nB;rw[U.b,aL eu,aL aN,aL eX];simp! [U,Tg.ix,Tg.fL,dg,o1,o2,o3,hN,sd,w4]
end
section
variable{ci:Nat}(U:ju fns rn)(hC:fns[ci]?=some qm)
include U hC
omit U hC in
theorem sS:qR .Pow (.int 10) (.int 18)=some (.dat (.int (10 ^ 18))):=by rfl
theorem Ia(ns:List Int)(hl:ns.length<=1000)(j:Nat):∃(s:Int) (fl:Bool),aU (rn (n+40)) (k+1) (qq ci) [.fix (ns.map .int),.int j]=some (.new [.int s,.bl fl]):=by
 obtain⟨v,q⟩:∃v:Int,∀n,aU (rn (n+20)) k qm [.fix (ns.map .int),.int j]=some (.dat (.int v)):=by
  by_cases h:j<ns.length
  .
   refine⟨ns[j],λn=>?_⟩
   have h':(j:Int)<ns.length:=by lia
   have:=wI ns j h;unfold aU qm;simp! [U,qj,h',this]
  .
   refine⟨0,λn=>?_⟩
   have h' : ¬ (j:Int)<ns.length:=by lia
   unfold aU qm;simp! [U,qj,h']
 by_cases hv:(1000000000000000000:Int)<=v
 . refine⟨v - 1000000000000000000,true,?_⟩;unfold aU qq;simp! [U,hC,aM (fx:=qm) rfl,q,sS,hv,au 2 ⋯]
 . refine⟨v % 2147483647,false,?_⟩;unfold aU qq;simp! [U,hC,aM (fx:=qm) rfl,q,sS,hv,au 2 ⋯,ji]
end
noncomputable def bI:Fx:=⟨1,1,[(.ret (.and [(.pL (.slot 0) "int"),(.not (.pL (.slot 0) "bool"))]))]⟩
noncomputable def bD(w:Nat):Fx:=⟨3,3,[(.ret (.and [(.call w [(.slot 0)]),(.chain (.slot 1) [.LtE,.LtE] [(.slot 0),(.slot 2)])]))]⟩
def isInt:D->Bool
 |.int _=>true
 |_=>false
noncomputable def yR(lo hi:Int):D->Bool
 |.int i=>decide (lo<=i/\i<=hi)
 |_=>false
def Nf(m:Nat):D->Bool
 |.tup l=>match aP l with
  |some t=>decide (bw t=nums m)
  |none=>false
 |_=>false
def Ng:D->Prop
 |.tup l=>l.length<=20/\∀x∈l,gF x=true/\dep x<=5
 |_=>True
theorem mC:∀{l:List D},l.all isInt=true->∃t:List Int,l=t.map .int
 | [],_=>⟨[],rfl⟩
 |d::l,h=>by
  rw[List.all_cons,c8]at h;obtain⟨t,rfl⟩:=mC h.2;cases d with
  |int i=>exact⟨i::t,rfl⟩
  |_=>cases h.1
theorem wL:∀{l:List D},l.all isInt=false->aP l=none
 | [],h=>by cases h
 |d::l,h=>by
  cases d with
  |int i=>
   have:l.all isInt=false:=by simpa [isInt]using h
   show (match aP l with |some ns=>some (i::ns) |none=>none)=none
   rw[wL this]
  |_=>rfl
section
variable{w wi mw it ci cj:Nat}(U:ju fns rn)
include U
theorem fP(d:D):aU (rn (n+6)) k bI [d]=some (.dat (.bl (isInt d))):=by unfold aU bI;cases d <;> simp! [U,ug,xx,isInt]
variable(hW:fns[w]?=some bI)
include hW
theorem jj(d:D)(lo hi:Int):aU (rn (n+14)) (k+1) (bD w) [d,.int lo,.int hi]=some (.dat (.bl (yR lo hi d))):=by
 unfold aU bD;cases d with
 |int i=>
  by_cases h1:lo<=i
  .
   by_cases h2:i<=hi
   . simp! [U,hW,aE (fx:=bI) rfl,fP U,isInt,yR,h1,h2]
   . simp! [U,hW,aE (fx:=bI) rfl,fP U,isInt,yR,h1,h2]
  . simp! [U,hW,aE (fx:=bI) rfl,fP U,isInt,yR,h1]
 |_=>simp! [U,hW,aE (fx:=bI) rfl,fP U,isInt,yR]
end
noncomputable def cz(i ci:Nat):Fx:=⟨3,3,[(.ite (.not (.call i [(.slot 0),(.slot 1),(.slot 2)])) [.stuck] [])]⟩
def cP(mw w:Nat):Fx:=⟨2,2,[(.expr (.call mw [(.slot 0),(.val (.int 1)),(.val (.int 6))])),(.ite (.or [(.not (.pL (.slot 1) "tuple")),(.not (.blt .all [(.comp 2 2 (.nm 3) (.slot 1) none (.call w [(.slot 3)]))]))]) [(.ret (.val (.bl false)))] []),(.ret (.cmp .Eq (.blt .sorted [(.slot 1)]) (.cU (.slot 0))))]⟩
noncomputable def cQ(it ci:Nat):Fx:=⟨2,2,[(.ite (.not (.call it [(.slot 0),(.slot 1)])) [.stuck] [])]⟩
section
variable{k n:Nat}{g g1:G}{rn:Nat->Rn}{fns:List Fx}{w wi mw it ci cj:Nat}(U:ju fns rn)
include U
variable(hW:fns[w]?=some bI)
include hW
variable(hI:fns[wi]?=some (bD w))
include hI
theorem oh(d:D)(lo hi:Int)(h:yR lo hi d=true):aU (rn (n+24)) (k+2) (cz wi ci) [d,.int lo,.int hi]=some (.dat .non):=by unfold aU cz;simp! [U,hI,bh (fx:=bD w) rfl,jj U hW,h]
theorem z5(d:D)(lo hi:Int)(h:yR lo hi d=true):zZ (rn (n+24)) (k+2) (cz wi ci) [d,.int lo,.int hi]=none:=by unfold zZ cz;simp! [U,hI,bh (fx:=bD w) rfl,jj U hW,h]
end
section
variable{k n:Nat}{g g1:G}{rn:Nat->Rn}{fns:List Fx}{w wi mw it ci cj:Nat}(U:ju fns rn)(hW:fns[w]?=some bI)
include U hW
theorem Up{d0:D}(l:List D)(h:l.length<=lim):fM (rn (n+12)) [] (k+1) 2 2 (.nm 3) (.slot 1) none (.call w [.slot 3]) [.dat d0,.dat (.tup l)]=some ((l.map isInt).map .bl,[.dat d0,.dat (.tup l)]):=by
 rw[List.map_map];have:=gI (rn:=rn (n+12)) (bor:=[]) (k:=k+1) (g:=[.dat d0,.dat (.tup l)]) (g1:=[.dat d0,.dat (.tup l)]) (kk:=2) (nn:=2) (j:=3) (it:=.slot 1) (e:=.call w [.slot 3]) l id (λx=>.bl (isInt x)) (by simp! [U,dg]) rfl ⋯ ⋯ ⋯ h λa _ G' hG=>by
  have h2:=hG.2;simp only[id]at h2;simp! [U,h2,hW,aE (fx:=bI) rfl,fP U]
 exact this
omit U hW in
theorem Dc(l:List D):(l.map isInt).all id=l.all isInt:=by simp[BN]
omit U hW in
theorem sy(m:Nat)(t:List Int):Nf m (~~~t)=decide (bw t=nums m):=by
 show (match aP (t.map .int)with |some t=>decide (bw t=nums m) |none=>false)=_
 rw[ints_map]
omit U hW in
theorem Nh(m:Nat){l:List D}(h:l.all isInt=false):Nf m (.tup l)=false:=by
 show (match aP l with |some t=>decide (bw t=nums m) |none=>false)=_
 rw[wL h]
variable(hI:fns[wi]?=some (bD w))(hM:fns[mw]?=some (cz wi ci))
include hI hM
theorem Ib(m:Nat)(hm:1<=m/\m<=6)(d:D)(hd:ug (xx d) "tuple"=false):aU (rn (n+40)) (k+4) (cP mw w) [.int m,d]=some (.dat (.bl false))/\zZ (rn (n+40)) (k+4) (cP mw w) [.int m,d]=none:=by
 have hi:yR 1 6 (.int m)=true:=by show decide ((1:Int)<=m/\(m:Int)<=6)=true;rw[b8];lia
 have mu:=λn k=>oh U hW hI (n:=n) (k:=k) (ci:=ci) (.int m) 1 6 hi
 have mx:=λn k=>z5 U hW hI (n:=n) (k:=k) (ci:=ci) (.int m) 1 6 hi
 unfold aU zZ cP;constructor
 . simp! [U,hM,bh (fx:=cz wi ci) rfl,mu,hd]
 . simp! [U,hM,bh (fx:=cz wi ci) rfl,mu,mx,hd]
theorem sA(m:Nat)(hm:1<=m/\m<=6)(d:D)(hd:Ng d):aU (rn (n+40)) (k+4) (cP mw w) [.int m,d]=some (.dat (.bl (Nf m d)))/\zZ (rn (n+40)) (k+4) (cP mw w) [.int m,d]=none:=by
 have hi:yR 1 6 (.int m)=true:=by show decide ((1:Int)<=m/\(m:Int)<=6)=true;rw[b8];lia
 have mu:=λn k=>oh U hW hI (n:=n) (k:=k) (ci:=ci) (.int m) 1 6 hi
 have mx:=λn k=>z5 U hW hI (n:=n) (k:=k) (ci:=ci) (.int m) 1 6 hi
 cases d with
 |tup l=>
  obtain⟨h1,h2⟩:=hd;have o:=λn k=>Up U hW (n:=n) (k:=k) (d0:=.int m) l (au _ ⋯)
  have ha:=Dc l;cases e:l.all isInt with
  |true=>
   rw[e]at ha;obtain⟨t,rfl⟩:=mC e;have hl:t.length<64:=by have:=dC (as:=t) D.int;lia
   have hr:bU 0 m=(nums m).map .int:=iO m;rw[sy];unfold aU zZ cP;constructor
   . simp! [U,hM,bh (fx:=cz wi ci) rfl,mu,o,qk,ha,nu t hl,aD m ⋯,au m ⋯,hr]
   . simp! [U,hM,bh (fx:=cz wi ci) rfl,mu,mx,o,qk,ha,nu t hl,aD m ⋯,au m ⋯,hr]
  |false=>
   rw[e]at ha;rw[Nh m e];unfold aU zZ cP;constructor
   . simp! [U,hM,bh (fx:=cz wi ci) rfl,mu,o,qk,ha]
   . simp! [U,hM,bh (fx:=cz wi ci) rfl,mu,mx,o,qk,ha]
 |_=>exact Ib U hW hI hM m hm _ rfl
variable(hT:fns[it]?=some (cP mw w))
include hT
end
def Pl(x:D):Prop:=gF x=true/\dep x<=5
theorem Pl.int(i:Int):Pl (.int i):=⟨rfl,u4 _⟩
theorem Pl.ints{t:List Int}{x:D}(h:x∈t.map D.int):Pl x:=by obtain⟨i,_,rfl⟩:=fA.mp h;exact .int i
def jU:Fx:=⟨2,3,[(.set 2 (.lst [(.slot 1)])),(.while (.cmp .NotEq (.ix (.slot 0) (.ix (.slot 2) (.neg (.val (.int 1))))) (.slot 1)) [(.expr (.append 2 (.ix (.slot 0) (.ix (.slot 2) (.neg (.val (.int 1)))))))]),(.ret (.blt .tuple [(.slot 2)]))]⟩
def jV(rf:Nat):Fx:=⟨2,3,[(.setC 2 (.comp 3 2 (.nm 4) (.slot 1) none (.call rf [(.slot 0),(.slot 4)]))),(.ret (.comp 3 2 (.nm 4) (.slot 2) (some (.cmp .Eq (.ix (.slot 4) (.val (.int 0))) (.blt .min [(.slot 4)]))) (.slot 4)))]⟩
noncomputable def Ni(mt al:Nat):Fx:=⟨2,2,[(.expr (.call mt [(.slot 0),(.slot 1)])),(.ret (.call al [(.slot 1),(.cU (.slot 0))]))]⟩
theorem qu:∀{l:List D}{ns:List Int},aP l=some ns->l=ns.map .int
 | [],ns,h=>by cases h;rfl
 |d::l,ns,h=>by
  cases d with
  |int i=>
   unfold aP at h;cases e:aP l with
   |none=>rw[e]at h;cases h
   |some ms=>rw[e]at h;cases h;rw[qu e];rfl
  |_=>cases h
theorem wM:∀{l:List D}{ts:List (List Int)},dP l=some ts->l=ts.map λx=>~~~x
 | [],ts,h=>by cases h;rfl
 |d::l,ts,h=>by
  cases d with
  |tup x=>
   unfold dP at h;split at h
   . rename_i n ns dG e1 e2;cases h;rw[wM e2,qu e1];rfl
   . cases h
  |_=>cases h
noncomputable def ZQ:Nat->Nat->Nat->List (List Int)
 | 0,_,_=>[]
 |f+1,cA,most=>if cA=0 then [[]]else (List.range (min cA most)).flatMap λ(i:Nat)=>(ZQ f (cA - (i+1)) (i+1)).map ((((i+1:Nat):Int)) :: ·)
def kinds(m:Nat):List (List Int):=ZQ (m+1) m m
def wN:Nat->Int
 | 0=>1
 |n+1=>wN n * ((n+1:Nat):Int)
noncomputable def fG:List Int->List Int->Int
 |_,[]=>1
 |b,a::l=>a * (((b++[a]).count a:Nat):Int) * fG (b++[a]) l
def cnt(m:Nat)(t:List Int):Int:=wN m / fG [] t
noncomputable def Nj:Nat->List Int->Prop
 |_,[]=>True
 |most,a::l=>1<=a/\a<=most/\Nj a.toNat l
theorem Nj.pos:∀{t:List Int}{most:Nat},Nj most t->0<=t.sum/\(t≠[]->1<=t.sum)
 | [],_,_=>⟨by simp,λh=>absurd rfl h⟩
 |a::l,_,h=>by
  have:=(Nj.pos h.2.2).1;have h1:=h.1;simp only[B7];lia
theorem uD:∀(f cA most:Nat) (t:List Int),cA<f->(t∈ZQ f cA most ↔ t.sum=cA/\Nj most t)
 | 0,_,_,_,h=>absurd h (AG _)
 |f+1,cA,most,t,h=>by
  unfold ZQ;by_cases hl:cA=0
  .
   rw[eP hl];subst hl;rw[i6];refine⟨λe=>by subst e;exact⟨rfl,trivial⟩,λ⟨e,q⟩=>?_⟩
   cases t with
   |nil=>rfl
   |cons a l=>have:=q.pos.2 ⋯;lia
  .
   rw[eQ hl];simp only[B2,lS,fA];constructor
   .
    rintro⟨i,hi,l,hm,rfl⟩;obtain⟨e,q⟩:=(uD f _ _ l ⋯).mp hm;refine⟨by rw[B7,e];lia,by lia,by lia,?_⟩
    rw[show ((i+1:Nat):Int).toNat=i+1 by lia]
    exact q
   .
    rintro⟨e,q⟩;cases t with
    |nil=>simp at e;lia
    |cons a l=>
     obtain⟨q1,q2,q3⟩:=q;have hp:=q3.pos.1;rw[B7]at e;refine⟨(a - 1).toNat,by lia,l,(uD f _ _ l ⋯).mpr ⟨by lia,?_⟩,?_⟩
     . rw[show (a - 1).toNat+1=a.toNat by lia];exact q3
     .
      congr 1;lia
noncomputable def adj:List Int->Bool
 |a::b::l=>decide (a ≥ b)&&adj (b::l)
 |_=>true
theorem z6:∀(t:List Int) (most:Nat),Nj most t ↔ (∀a∈t,1<=a)/\adj t=true/\(∀a∈t.head?,a<=most)
 | [],_=>by simp[Nj,adj]
 | [a],most=>by simp[Nj,adj]
 |a::b::l,most=>by
  have ih:=z6 (b::l) a.toNat;simp only[Nj]at ih ⊢
  simp only[adj,c8,b8,dS,List.head?_cons,Option.mem_def,Option.some.injEq,forall_eq',forall_eq_or_imp]at ih ⊢
  constructor
  . rintro⟨h1,h2,h3,h4,h5⟩;have:=ih.mp ⟨h3,h4,h5⟩;exact⟨⟨h1,this.1.1,this.1.2⟩,⟨by lia,this.2.1⟩,h2⟩
  . rintro⟨⟨h1,h2,h3⟩,⟨h4,h5⟩,h6⟩;exact⟨h1,h6,ih.mpr ⟨⟨h2,h3⟩,h5,by lia⟩⟩
theorem sC(m:Nat)(t:List Int):t∈kinds m ↔ (∀a∈t,1<=a)/\t.sum=m/\adj t=true:=by
 unfold kinds;rw[uD _ _ _ _ (l5 _),z6];constructor
 . rintro⟨h1,h2,h3,_⟩;exact⟨h2,h1,h3⟩
 .
  rintro⟨h1,h2,h3⟩;refine⟨h2,h1,h3,λa ha=>?_⟩
  cases t with
  |nil=>cases ha
  |cons b l=>
   cases ha;have hl:0<=l.sum:=by
    have:∀(l:List Int),(∀a∈l,1<=a)->0<=l.sum:=λl=>by
     induction l with
     |nil=>intro _;simp
     |cons x l ih=>intro h;have:=ih λa ha=>h a (aS _ ha);have:=h x bP;rw[B7];lia
    exact this l λa ha=>h1 a (aS _ ha)
   rw[B7]at h2;lia
def jA:Fx:=⟨1,1,[(.ret (.blt .all [(.comp 1 2 (.nm 2) (.cO (.val (.int 1)) (.blt .len [(.slot 0)])) none (.cmp .GtE (.ix (.slot 0) (.bin .Sub (.slot 2) (.val (.int 1)))) (.ix (.slot 0) (.slot 2))))]))]⟩
def cY(mw w fa:Nat):Fx:=⟨2,2,[(.expr (.call mw [(.slot 0),(.val (.int 1)),(.val (.int 9))])),(.ite (.not (.pL (.slot 1) "tuple")) [(.ret (.val (.bl false)))] []),(.ite (.not (.blt .all [(.comp 2 2 (.nm 3) (.slot 1) none (.and [(.call w [(.slot 3)]),(.cmp .GtE (.slot 3) (.val (.int 1)))]))])) [(.ret (.val (.bl false)))] []),(.ret (.and [(.cmp .Eq (.blt .sum [(.slot 1)]) (.slot 0)),(.call fa [(.slot 1)])]))]⟩
noncomputable def d7(ik ci:Nat):Fx:=⟨2,2,[(.ite (.not (.call ik [(.slot 0),(.slot 1)])) [.stuck] [])]⟩
def Nk(m:Nat):D->Bool
 |.tup l=>match aP l with
  |some t=>decide (t∈kinds m)
  |none=>false
 |_=>false
def Uq(t:List Int):Bool:=(List.range (t.length - 1)).all λi=>decide (gt t i ≥ gt t (i+1))
theorem z7(a:Int)(l:List Int)(i:Nat):gt (a::l) ((i:Int)+1)=gt l i:=by
 unfold gt;rw[show ((i:Int)+1).toNat=i+1 by lia,show (i:Int).toNat=i by lia]
 simp
theorem z8:∀t:List Int,Uq t=adj t
 | []=>rfl
 | [a]=>rfl
 |a::b::l=>by
  have ih:=z8 (b::l);unfold Uq at ih ⊢
  simp only[eI,A9]at ih ⊢
  rw[List.range_succ_eq_map,List.all_cons,BN,adj,<- ih];have:∀i:Nat,decide (gt (a::b::l) ((i+1:Nat):Int) ≥ gt (a::b::l) (((i+1:Nat):Int)+1))=decide (gt (b::l) (i:Int) ≥ gt (b::l) ((i:Int)+1)):=λi=>by
   rw[show ((i+1:Nat):Int)=(i:Int)+1 by lia,z7,show (i:Int)+1+1=((i+1:Nat):Int)+1 by lia,z7,show ((i+1:Nat):Int)=(i:Int)+1 by lia]
  have h2:(λi:Nat=>decide (gt (a::b::l) (i:Int) ≥ gt (a::b::l) ((i:Int)+1))) ∘ Nat.succ=λi:Nat=>decide (gt (b::l) (i:Int) ≥ gt (b::l) ((i:Int)+1)):=funext this
  rw[h2];rfl
def pos1:D->Bool
 |.int i=>decide (i ≥ 1)
 |_=>false
theorem Nm{a:D}(h:isInt a=false):pos1 a=false:=by cases a <;> first |rfl |cases h
theorem Ic{a:D}(h:isInt a=true):∃i,a=.int i:=by cases a <;> first |exact⟨_,rfl⟩ |cases h
theorem sD(t:List Int):(t.map D.int).all pos1=true ↔ ∀a∈t,1<=a:=by simp[eJ,pos1]
theorem Ie{l:List D}(h:l.all pos1=true):∃t:List Int,l=t.map .int:=mC (eJ.mpr λx hx=>by
 have:=eJ.mp h x hx;cases x <;> first |rfl |cases this)
theorem sE(m:Nat)(t:List Int):Nk m (~~~t)=decide (t∈kinds m):=by
 show (match aP (t.map .int)with |some t=>decide (t∈kinds m) |none=>false)=_
 rw[ints_map]
theorem Np(m:Nat){l:List D}(h:l.all pos1=false):Nk m (.tup l)=false:=by
 show (match aP l with |some t=>decide (t∈kinds m) |none=>false)=_
 cases e:aP l with
 |none=>rfl
 |some t=>dsimp only;rw[u8,sC];rintro⟨q,_⟩;rw[qu e,(sD t).mpr q]at h;cases h
section
variable{k n:Nat}{g g1:G}{rn:Nat->Rn}{fns:List Fx}{w wi mw fa ik ci cj:Nat}(U:ju fns rn)
include U
theorem Nq(t:List Int)(h:t.length<=1000):aU (rn (n+20)) k jA [~~~t]=some (.dat (.bl (adj t))):=by
 have w1:∀n k,fM (rn (n+10)) [] k 1 2 (.nm 2) (.cO (.val (.int 1)) (.blt .len [(.slot 0)])) none (.cmp .GtE (.ix (.slot 0) (.bin .Sub (.slot 2) (.val (.int 1)))) (.ix (.slot 0) (.slot 2))) [.dat (~~~t)]=some (((List.range (t.length - 1)).map λ(i:Nat)=>decide (gt t i ≥ gt t (i+1))).map .bl,[.dat (~~~t)]):=λn k=>by
  rw[List.map_map];refine gI (rn:=rn (n+10)) (bor:=[]) (k:=k) (g:=[.dat (~~~t)]) (g1:=[.dat (~~~t)]) (kk:=2) (nn:=1) (j:=2) (List.range (t.length - 1)) (λ(i:Nat)=>D.int (1+(i:Int))) (λ(i:Nat)=>.bl (decide (gt t i ≥ gt t (i+1)))) ?_ rfl ⋯ ⋯ ⋯ (au _ (by rw[AK];lia)) λi hi G' hG=>?_
  .
   have hr:((t.length:Int) - 1).toNat=t.length - 1:=by lia
   have o1:=aD 1 ⋯;have o2:=aD (t.length:Int) ⋯;simp! [U,dg,o1,o2,bU,hr]
  .
   have h0:=hG.1 0 ⋯;have h2:=hG.2;rw[lS]at hi;have a1:L2.fB (t.map D.int) (1+(i:Int) - 1)=some (.int (gt t i)):=by rw[show 1+(i:Int) - 1=(i:Int)by lia];exact dZ ⋯
   have a2:L2.fB (t.map D.int) (1+(i:Int))=some (.int (gt t (i+1))):=by rw[show 1+(i:Int)=(i:Int)+1 by lia];exact dZ ⋯
   simp only[List.getElem?_cons_zero]at h0;simp! [U,h0,h2,a1,a2]
 have e:((List.range (t.length - 1)).map λ(i:Nat)=>decide (gt t i ≥ gt t (i+1))).all id=adj t:=by rw[<- z8];unfold Uq;rw[BN];rfl
 unfold aU jA;simp! [U,w1,e]
variable(hW:fns[w]?=some bI)(hF:fns[fa]?=some jA)(hI:fns[wi]?=some (bD w))(hM:fns[mw]?=some (cz wi ci))
include hW hF hI hM
theorem Ig(m:Nat)(hm:1<=m/\m<=9)(d:D)(hd:ug (xx d) "tuple"=false):aU (rn (n+40)) (k+4) (cY mw w fa) [.int m,d]=some (.dat (.bl false))/\zZ (rn (n+40)) (k+4) (cY mw w fa) [.int m,d]=none:=by
 have hin:yR 1 9 (.int m)=true:=by unfold yR;simp only[b8];lia
 have mu:=λn k=>oh U hW hI (n:=n) (k:=k) (ci:=ci) (.int m) 1 9 hin
 have mx:=λn k=>z5 U hW hI (n:=n) (k:=k) (ci:=ci) (.int m) 1 9 hin
 unfold aU zZ cY;constructor
 . simp! [U,hM,bh (fx:=cz wi ci) rfl,mu,hd]
 . simp! [U,hM,bh (fx:=cz wi ci) rfl,mu,mx,hd]
theorem Dd(m:Nat)(hm:1<=m/\m<=9)(d:D)(hd:Ng d):aU (rn (n+40)) (k+4) (cY mw w fa) [.int m,d]=some (.dat (.bl (Nk m d)))/\zZ (rn (n+40)) (k+4) (cY mw w fa) [.int m,d]=none:=by
 have hin:yR 1 9 (.int m)=true:=by unfold yR;simp only[b8];lia
 have mu:=λn k=>oh U hW hI (n:=n) (k:=k) (ci:=ci) (.int m) 1 9 hin
 have mx:=λn k=>z5 U hW hI (n:=n) (k:=k) (ci:=ci) (.int m) 1 9 hin
 cases d with
 |tup l=>
  obtain⟨h1,h2⟩:=hd;have o:∀n k,fM (rn (n+14)) [] (k+1) 2 2 (.nm 3) (.slot 1) none (.and [(.call w [(.slot 3)]),(.cmp .GtE (.slot 3) (.val (.int 1)))]) [.dat (.int m),.dat (.tup l)]=some ((l.map pos1).map .bl,[.dat (.int m),.dat (.tup l)]):=λn k=>by
   rw[List.map_map];have:=gI (rn:=rn (n+14)) (bor:=[]) (k:=k+1) (g:=[.dat (.int m),.dat (.tup l)]) (g1:=[.dat (.int m),.dat (.tup l)]) (kk:=2) (nn:=2) (j:=3) (it:=.slot 1) (e:=(.and [(.call w [(.slot 3)]),(.cmp .GtE (.slot 3) (.val (.int 1)))])) l id (λx=>.bl (pos1 x)) (by simp! [U,dg]) rfl ⋯ ⋯ ⋯ (au _ ⋯) λa _ G' hG=>by
    have h2:=hG.2;simp only[id]at h2;cases hi:isInt a with
    |true=>obtain⟨i,rfl⟩:=Ic hi;simp! [U,h2,hW,aE (fx:=bI) rfl,fP U,isInt,pos1]
    |false=>simp! [U,h2,hW,aE (fx:=bI) rfl,fP U,hi,Nm hi]
   exact this
  have ea:(l.map pos1).all id=l.all pos1:=by simp[BN]
  cases e:l.all pos1 with
  |true=>
   obtain⟨t,rfl⟩:=Ie e;have q:=(sD t).mp e;have hl:t.length<=20:=by have:=dC (as:=t) D.int;lia
   have ZR:=λn k=>Nq U (n:=n) (k:=k) t ⋯
   have hk:Nk m (~~~t)=(decide (t.sum=m)&&adj t):=by rw[sE,t7];simp only[b8,c8,sC];exact⟨λh=>h.2,λh=>⟨q,h⟩⟩
   rw[hk];rw[e]at ea;unfold aU zZ cY;constructor
   .
    cases hs:decide (t.sum=(m:Int))with
    |true=>simp! [U,hM,bh (fx:=cz wi ci) rfl,mu,o,ea,hs,hF,aE (fx:=jA) rfl,ZR,(l4 hs)]
    |false=>simp! [U,hM,bh (fx:=cz wi ci) rfl,mu,o,ea,hs,hF,aE (fx:=jA) rfl,ZR,(A8 hs)]
   .
    cases hs:decide (t.sum=(m:Int))with
    |true=>simp! [U,hM,bh (fx:=cz wi ci) rfl,mu,mx,o,ea,hF,aE (fx:=jA) rfl,ZR,(l4 hs)]
    |false=>simp! [U,hM,bh (fx:=cz wi ci) rfl,mu,mx,o,ea,hF,aE (fx:=jA) rfl,ZR,(A8 hs)]
  |false=>
   rw[Np m e];rw[e]at ea;unfold aU zZ cY;constructor
   . simp! [U,hM,bh (fx:=cz wi ci) rfl,mu,o,ea]
   . simp! [U,hM,bh (fx:=cz wi ci) rfl,mu,mx,o,ea]
 |_=>exact Ig U hW hF hI hM m hm _ rfl
variable(hK:fns[ik]?=some (cY mw w fa))
include hK
theorem nD(m:Nat)(hm:1<=m/\m<=9)(t:List Int)(h:t∈kinds m)(hl:t.length<=20):aU (rn (n+50)) (k+5) (d7 ik cj) [.int m,~~~t]=some (.dat .non):=by
 have hd:Ng (~~~t):=⟨by rw[dC];exact hl,λx hx=>Pl.ints hx⟩
 have q:=λn k=>(Dd U hW hF hI hM (n:=n) (k:=k) m hm (~~~t) hd).1
 rw[sE,lL h]at q;unfold aU d7;simp! [U,hK,aM (fx:=cY mw w fa) rfl,q]
end
def iQ(wi:Nat):Fx:=⟨2,2,[(.ite (.or [(.not (.pL (.slot 1) "tuple")),(.cmp .NotEq (.blt .len [(.slot 1)]) (.val (.int 2)))]) [(.ret (.val (.bl false)))] []),(.ret (.and [(.blt .all [(.comp 2 2 (.nm 3) (.slot 1) none (.call wi [(.slot 3),(.val (.int 0)),(.bin .Sub (.slot 0) (.val (.int 1)))]))]),(.cmp .Lt (.ix (.slot 1) (.val (.int 0))) (.ix (.slot 1) (.val (.int 1))))]))]⟩
def wO:Fx:=⟨1,1,[(.ret (.blt .all [(.comp 1 2 (.nm 2) (.cO (.val (.int 1)) (.blt .len [(.slot 0)])) none (.cmp .Lt (.ix (.slot 0) (.bin .Sub (.slot 2) (.val (.int 1)))) (.ix (.slot 0) (.slot 2))))]))]⟩
def iR(wi it ri:Nat):Fx:=⟨1,3,[(.ite (.or [(.not (.pL (.slot 0) "tuple")),(.cmp .NotEq (.blt .len [(.slot 0)]) (.val (.int 2)))]) [(.ret (.val (.bl false)))] []),(.tgt (.tp [1,2]) (.slot 0)),(.ite (.or [(.not (.call wi [(.slot 1),(.val (.int 1)),(.val (.int 6))])),(.not (.pL (.slot 2) "tuple"))]) [(.ret (.val (.bl false)))] []),(.ret (.and [(.blt .all [(.comp 3 2 (.nm 4) (.slot 2) none (.call it [(.slot 1),(.slot 4)]))]),(.call ri [(.slot 2)])]))]⟩
noncomputable def bW(iw ci:Nat):Fx:=⟨1,1,[(.ite (.not (.call iw [(.slot 0)])) [.stuck] [])]⟩
noncomputable def W(m:Nat)(aj:List (List Int)):D:=.tup [.int m,.tup (aj.map λx=>~~~x)]
structure Wb(m:Nat)(aj:List (List Int)):Prop where
 tie:∀x∈aj,∃a b:Int,x=[a,b]/\0<=a/\a<b/\b<m
 VM:aj.Pairwise λx y=>HT.lexLt x y=true
 len:aj.length<=15
theorem jk(l:List (List Int)):fc (l.map λx=>~~~x)=true:=by
 induction l with
 |nil=>rfl
 |cons x l ih=>simp[fc,gF,dB,ih]
theorem jl(l:List (List Int)):deps (l.map λx=>~~~x)<=1:=by
 induction l with
 |nil=>simp[deps]
 |cons x l ih=>simp[deps,dep,fE];lia
theorem mD:∀a b:List (List Int),cR (a.map λx=>~~~x) (b.map λx=>~~~x)=decide (a=b)
 | [],[]=>rfl
 | [],_::_=>rfl
 |_::_,[]=>rfl
 |x::a,y::b=>by
  simp only[List.map_cons,cR,cD,dz,mD a b,Bi,Cf]
theorem Ih(m m':Nat)(a b:List (List Int)):kI (W m a) (W m' b)=true:=by have:=jl a;simp[kI,W,gF,fc,jk,dep,deps];lia
theorem Pz(m:Nat)(a b:List (List Int)):cD (W m a) (W m b)=decide (a=b):=by simp[W,cD,cR,mD]
theorem yS(m:Nat)(a b:List (List Int)):eU .NotEq (W m a) (W m b)=some (!decide (a=b)):=by
 show (if kI (W m a) (W m b)=true then some (!cD (W m a) (W m b))else none)=_
 rw[eP (Ih _ _ _ _),Pz]
section
variable{wh wi it ri iw ci:Nat}(U:ju fns rn)
include U
variable(hW:fns[wh]?=some bI)(hI:fns[wi]?=some (bD wh))
include hW hI
theorem Ii(m:Nat)(a b:Int)(h:0<=a/\a<b/\b<m):aU (rn (n+40)) (k+3) (iQ wi) [.int m,~~~[a,b]]=some (.dat (.bl true)):=by
 have w:=λn k=>gI (rn:=rn (n+24)) (bor:=[]) (k:=k+2) (g:=[.dat (.int m),.dat (~~~[a,b])]) (g1:=[.dat (.int m),.dat (~~~[a,b])]) (kk:=2) (nn:=2) (j:=3) (it:=.slot 1) (e:=.call wi [(.slot 3),(.val (.int 0)),(.bin .Sub (.slot 0) (.val (.int 1)))]) [a,b] .int (λ_=>.bl true) (by simp! [U,dg]) rfl ⋯ ⋯ ⋯ (au _ ⋯) λx hx G' hG=>by
  have h0:G'[0]?=some (.dat (.int m)):=hG.1 0 ⋯;have hx':(0:Int)<=x/\x<=m - 1:=by simp only[dS,l8,AB]at hx;lia
  simp! [U,hG.2,h0,hI,bh (fx:=bD wh) rfl,jj U hW,yR,hx']
 have e1:[a,b].map (λ_=>D.bl true)=([true,true]).map .bl:=rfl
 have i0:L2.fB ([a,b].map D.int) 0=some (.int a):=rfl;have i1:L2.fB ([a,b].map D.int) 1=some (.int b):=rfl;unfold aU iQ;simp! [U,w,e1,i0,i1,h]
omit hW hI in
theorem Ur(m:Nat)(aj:List (List Int))(h:Wb m aj):aU (rn (n+40)) k wO [.tup (aj.map λx=>~~~x)]=some (.dat (.bl true)):=by
 have hl:=h.len;have w:=λn k=>gI (rn:=rn (n+16)) (bor:=[]) (k:=k) (g:=[.dat (.tup (aj.map λx=>~~~x))]) (g1:=[.dat (.tup (aj.map λx=>~~~x))]) (kk:=2) (nn:=1) (j:=2) (it:=.cO (.val (.int 1)) (.blt .len [(.slot 0)])) (e:=.cmp .Lt (.ix (.slot 0) (.bin .Sub (.slot 2) (.val (.int 1)))) (.ix (.slot 0) (.slot 2))) (List.range (aj.length - 1)) (λ(k:Nat)=>.int (1+k:Int)) (λ_=>.bl true) (by
   have e:((aj.length:Int) - 1).toNat=aj.length - 1:=by lia
   simp! [U,dg,aD 1 ⋯,aD (aj.length:Int) ⋯,e,bU]) rfl ⋯ ⋯ ⋯ (au _ (by simp;lia)) λj hj G' hG=>by
  have h0:G'[0]?=some (.dat (.tup (aj.map λx=>~~~x))):=hG.1 0 ⋯
  have hj':=lS.mp hj;have j1:L2.fB (aj.map λx=>~~~x) (1+(j:Int) - 1)=some (~~~(aj[j]'⋯)):=by rw[show (1+(j:Int) - 1)=((j:Nat):Int)by lia,kQ _ _ (by simp;lia)];simp
  have j2:L2.fB (aj.map λx=>~~~x) (1+(j:Int))=some (~~~(aj[j+1]'⋯)):=by rw[show (1+(j:Int))=((j+1:Nat):Int)by lia,kQ _ _ (by simp;lia)];simp
  have hlt:HT.lexLt (aj[j]'⋯) (aj[j+1]'⋯)=true:=List.pairwise_iff_getElem.mp h.VM j (j+1) ⋯ ⋯ ⋯;have hc:eU .Lt (~~~(aj[j]'⋯)) (~~~(aj[j+1]'⋯))=some true:=by simp only[eU,ltF,ints_map,hlt]
  simp! [U,hG.2,h0,j1,j2,hc]
 have e1:(List.range (aj.length - 1)).map (λ_=>D.bl true)=((List.range (aj.length - 1)).map λ_=>true).map .bl:=by rw[List.map_map];rfl
 have e2:((List.range (aj.length - 1)).map λ_=>true).all id=true:=by simp
 unfold aU wO;simp! [U,w,e1,e2]
variable(kN:fns[it]?=some (iQ wi))(hR:fns[ri]?=some wO)
include kN hR
theorem Ij(m:Nat)(aj:List (List Int))(hm:1<=m/\m<=6)(h:Wb m aj):aU (rn (n+60)) (k+5) (iR wi it ri) [W m aj]=some (.dat (.bl true)):=by
 have hl:=h.len;have w:=λn k=>gI (rn:=rn (n+50)) (bor:=[]) (k:=k+4) (g:=[.dat (W m aj),.dat (.int m),.dat (.tup (aj.map λx=>~~~x))]) (g1:=[.dat (W m aj),.dat (.int m),.dat (.tup (aj.map λx=>~~~x))]) (kk:=2) (nn:=3) (j:=4) (it:=.slot 2) (e:=.call it [(.slot 1),(.slot 4)]) aj (λx=>~~~x) (λ_=>.bl true) (by simp! [U,dg]) rfl ⋯ ⋯ ⋯ (au _ ⋯) λx hx G' hG=>by
  have h1:G'[1]?=some (.dat (.int m)):=hG.1 1 ⋯;obtain⟨a,b,rfl,hab⟩:=h.tie x hx;simp! [U,hG.2,h1,kN,aM (fx:=iQ wi) rfl,Ii U hW hI m a b hab]
 have e1:aj.map (λ_=>D.bl true)=(aj.map λ_=>true).map .bl:=by rw[List.map_map];rfl
 have e2:(aj.map λ_=>true).all id=true:=by simp
 have q:=λn k=>Ur U (n:=n) (k:=k) m aj h
 have ty:ug (xx (W m aj)) "tuple"=true:=rfl;have bl:jd .len [W m aj]=some (.dat (.int 2)):=rfl;have st:∀s1 s2,Tg.set (.tp [1,2]) (W m aj) [.dat (W m aj),s1,s2]=some [.dat (W m aj),.dat (.int m),.dat (.tup (aj.map λx=>~~~x))]:=λ_ _=>rfl
 unfold aU iR;simp! [U,ty,bl,Tg.ix,st,hI,bh (fx:=bD wh) rfl,jj U hW,yR,(show (1:Int)<=m/\(m:Int)<=6 by lia),w,e1,e2,hR,aE (fx:=wO) rfl,q]
variable(xB:fns[iw]?=some (iR wi it ri))
include xB
theorem d8(m:Nat)(aj:List (List Int))(hm:1<=m/\m<=6)(h:Wb m aj):aU (rn (n+70)) (k+6) (bW iw ci) [W m aj]=some (.dat .non):=by unfold aU bW;simp! [U,xB,aE (fx:=iR wi it ri) rfl,Ij U hW hI kN hR m aj hm h]
end
def tm(t:List Int)(x:List Int):List Int:=if gt t (gt x 0)<gt t (gt x 1)then [gt t (gt x 0),gt t (gt x 1)]else [gt t (gt x 1),gt t (gt x 0)]
def tw(t:List Int)(aj:List (List Int)):List (List Int):=bV cT (aj.map (tm t))
theorem bE(a b:Int):gt [a,b] 0=a/\gt [a,b] 1=b:=⟨rfl,rfl⟩
theorem dJ(t:List Int)(a b:Int):tm t [a,b]=if gt t a<gt t b then [gt t a,gt t b]else [gt t b,gt t a]:=rfl
def Pr(m:Nat)(x:List Int):Prop:=∃a b:Int,x=[a,b]/\0<=a/\a<b/\b<m
theorem PB{m:Nat}{t:List Int}(h:Tn m t){x:List Int}(hx:Pr m x):Pr m (tm t x):=by
 obtain⟨a,b,rfl,h1,h2,h3⟩:=hx;have ha:=h.gj (i:=a) ⋯;have hb:=h.gj (i:=b) ⋯;have eY:gt t a≠gt t b:=λe=>by have:=h.inj (i:=a) (j:=b) ⋯ ⋯ e;lia
 rw[dJ];split
 . exact⟨_,_,rfl,by lia,by lia,by lia⟩
 . exact⟨_,_,rfl,by lia,by lia,by lia⟩
theorem uE{m:Nat}{t:List Int}(h:Tn m t){x y:List Int}(hx:Pr m x)(hy:Pr m y)(e:tm t x=tm t y):x=y:=by
 obtain⟨a,b,rfl,h1,h2,h3⟩:=hx;obtain⟨c,d,rfl,h4,h5,h6⟩:=hy;rw[dJ,dJ]at e;have i1:∀i j:Int,(0<=i/\i<m)->(0<=j/\j<m)->gt t i=gt t j->i=j:=λi j hi hj e=>h.inj hi hj e
 split at e <;> split at e <;> simp only[Bi,and_true]at e
 .
  have:=i1 a c ⋯ ⋯ e.1;have:=i1 b d ⋯ ⋯ e.2
  subst_vars;rfl
 . have:=i1 a d ⋯ ⋯ e.1;have:=i1 b c ⋯ ⋯ e.2;lia
 . have:=i1 b c ⋯ ⋯ e.1;have:=i1 a d ⋯ ⋯ e.2;lia
 .
  have:=i1 b d ⋯ ⋯ e.1;have:=i1 a c ⋯ ⋯ e.2
  subst_vars;rfl
theorem Us{m:Nat}{t u:List Int}(ht:Tn m t)(hu:Tn m u){x:List Int}(hx:Pr m x):tm u (tm t x)=tm (t.map (gt u)) x:=by
 obtain⟨a,b,rfl,h1,h2,h3⟩:=hx;have hl:=ht.length;have e:∀i:Int,(0<=i/\i<m)->gt (t.map (gt u)) i=gt u (gt t i):=λi hi=>by
  have h1:i.toNat<t.length:=by lia
  unfold gt;simp[gL h1,h1]
 rw[dJ t,dJ,e a ⋯,e b ⋯];have ha:=ht.gj (i:=a) ⋯;have hb:=ht.gj (i:=b) ⋯;have eY:gt t a≠gt t b:=λq=>by have:=ht.inj (i:=a) (j:=b) ⋯ ⋯ q;lia
 have hne2:gt u (gt t a)≠gt u (gt t b):=λq=>eY (hu.inj ha hb q)
 split
 . rw[dJ]
 . rw[dJ];split <;> split <;> first |rfl |lia
theorem jB{l:List (List Int)}(h:l.Nodup):(bV cT l).Pairwise λx y=>HT.lexLt x y=true:=by
 have h1:=fj (O:=cT) l;have h2:(bV cT l).Nodup:=(bZ l).nodup_iff.mpr h;rw[AM]at h2;refine (h1.and h2).imp λ{x y} ⟨q1,q2⟩=>?_
 cases e:HT.lexLt x y with
 |true=>rfl
 |false=>exact absurd (lR x y e q1) q2
theorem Wb.nodup{m:Nat}{aj:List (List Int)}(h:Wb m aj):aj.Nodup:=by rw[AM];exact h.VM.imp λ{x y} q e=>by rw[e,lQ]at q;cases q
theorem Wb.turn{m:Nat}{aj:List (List Int)}{t:List Int}(h:Wb m aj)(ht:Tn m t):Wb m (tw t aj):=by
 have hp:=bZ (O:=cT) (aj.map (tm t));refine⟨λx hx=>?_,jB (mz h.nodup λx hx y hy e=>uE ht (h.tie x hx) (h.tie y hy) e),?_⟩
 . obtain⟨y,hy,rfl⟩:=fA.mp (hp.mem_iff.mp hx);exact PB ht (h.tie y hy)
 . unfold tw;rw[hp.length_eq,dC];exact h.len
theorem yT{l l':List (List Int)}(h:l.Perm l'):bV cT l=bV cT l':=dW ((bZ l).trans h) (fj l)
theorem Ik{m:Nat}{aj:List (List Int)}{t u:List Int}(h:Wb m aj)(ht:Tn m t)(hu:Tn m u):tw u (tw t aj)=tw (t.map (gt u)) aj:=by
 unfold tw;rw[yT ((bZ (O:=cT) (aj.map (tm t))).map (tm u)),List.map_map]
 congr 1
 exact kS λx hx=>Us ht hu (h.tie x hx)
theorem YB{m:Nat}{aj:List (List Int)}{t:List Int}(h:Wb m aj)(ht:∀i:Int,0<=i/\i<m->gt t i=i):tw t aj=aj:=by
 unfold tw;have e:aj.map (tm t)=aj:=by
  conv=>rhs;rw[<- List.map_id aj]
  refine kS λx hx=>?_
  obtain⟨a,b,rfl,h1,h2,h3⟩:=h.tie x hx;rw[dJ,ht a ⋯,ht b ⋯,eP h2];rfl
 rw[e];refine (dW (oI _) (h.VM.imp λ{x y} q=>?_)).symm
 exact gK.le_of_lt (O:=cT) q
noncomputable def mF:Fx:=⟨2,2,[(.ret (.ite (.cmp .Lt (.slot 0) (.slot 1)) (.tup [(.slot 0),(.slot 1)]) (.tup [(.slot 1),(.slot 0)])))]⟩
def yU(to:Nat):Fx:=⟨2,4,[(.tgt (.tp [2,3]) (.slot 0)),(.ret (.tup [(.slot 2),(.blt .tuple [(.blt .sorted [(.comp 4 3 (.tp [5,6]) (.slot 3) none (.call to [(.ix (.slot 1) (.slot 5)),(.ix (.slot 1) (.slot 6))]))])])]))]⟩
def jm(mb mt le:Nat):Fx:=⟨2,2,[(.expr (.call mb [(.slot 0)])),(.expr (.call mt [(.ix (.slot 0) (.val (.int 0))),(.slot 1)])),(.ret (.call le [(.slot 0),(.slot 1)]))]⟩
def kU(mt:Nat):Fx:=⟨3,3,[(.expr (.call mt [(.slot 0),(.slot 1)])),(.expr (.call mt [(.slot 0),(.slot 2)])),(.ret (.blt .tuple [(.comp 3 2 (.nm 4) (.slot 1) none (.ix (.slot 2) (.slot 4)))]))]⟩
noncomputable def inv(m:Nat)(t:List Int):List Int:=(List.range m).map λ(k:Nat)=>(t.idxOf (k:Int):Int)
section
variable{k n:Nat}{g g1:G}{rn:Nat->Rn}{fns:List Fx}{wh wi it ri iw ci cj cw mw tu mt mb le to:Nat}(U:ju fns rn)
include U
theorem Il(a b:Int):aU (rn (n+8)) k mF [.int a,.int b]=some (.dat (~~~(if a<b then [a,b]else [b,a]))):=by
 unfold aU mF;by_cases h:a<b
 . simp! [U,h,au 2 ⋯];simp
 . simp! [U,h,au 2 ⋯];simp
variable(VN:fns[to]?=some mF)
include VN in
theorem Im(m:Nat)(aj:List (List Int))(t:List Int)(h:Wb m aj)(ht:Tn m t):aU (rn (n+40)) (k+2) (yU to) [W m aj,~~~t]=some (.dat (W m (tw t aj))):=by
 have hl:=h.len;have htl:=ht.length;have st:∀s1 s2,Tg.set (.tp [2,3]) (W m aj) [.dat (W m aj),.dat (~~~t),s1,s2]=some [.dat (W m aj),.dat (~~~t),.dat (.int m),.dat (.tup (aj.map λx=>~~~x))]:=λ_ _=>rfl
 have w:=λn k=>HJ (rn:=rn (n+16)) (bor:=[]) (k:=k+1) (g:=[.dat (W m aj),.dat (~~~t),.dat (.int m),.dat (.tup (aj.map λx=>~~~x))]) (g1:=[.dat (W m aj),.dat (~~~t),.dat (.int m),.dat (.tup (aj.map λx=>~~~x))]) (kk:=3) (nn:=4) (j1:=5) (j2:=6) (it:=.slot 3) (e:=.call to [(.ix (.slot 1) (.slot 5)),(.ix (.slot 1) (.slot 6))]) aj (λx=>.int (gt x 0)) (λx=>.int (gt x 1)) (λx=>~~~(tm t x)) (by
   have e:aj.map (λx=>~~~x)=aj.map λx=>.tup [.int (gt x 0),.int (gt x 1)]:=kS λx hx=>by
    obtain⟨a,b,rfl,_⟩:=h.tie x hx;rfl
   simp! [U,dg,<- e]) rfl ⋯ ⋯ ⋯ ⋯ ⋯ ⋯ ⋯ (au _ ⋯) λx hx G' hG=>by
  have h1:G'[1]?=some (.dat (~~~t)):=hG.1 1 ⋯;obtain⟨a,b,rfl,h2,h3,h4⟩:=h.tie x hx;have h5:=hG.2.1;have h6:=hG.2.2;rw[(bE a b).1]at h5;rw[(bE a b).2]at h6;simp! [U,h5,h6,h1,dZ (t:=t) (i:=a) ⋯,dZ (t:=t) (i:=b) ⋯,VN,aM (fx:=mF) rfl,Il U,dJ]
 have e1:aj.map (λx=>~~~(tm t x))=(aj.map (tm t)).map λx=>~~~x:=by rw[List.map_map];rfl
 have e2:=iN (aj.map (tm t)) (λx hx=>by obtain⟨y,_,rfl⟩:=fA.mp hx;unfold tm;split <;> simp) (by simp;lia)
 unfold aU yU;simp! [U,Tg.ix,st,w,e1,e2,au 2 ⋯];rfl
variable(hW:fns[wh]?=some bI)(hI:fns[wi]?=some (bD wh))(hM:fns[mw]?=some (cz wi ci))(hT:fns[tu]?=some (cP mw wh))(Yz:fns[mt]?=some (cQ tu cj))
include hW hI hM hT
theorem jW(m:Nat)(t:List Int)(hm:1<=m/\m<=6)(h:Tn m t):aU (rn (n+48)) (k+5) (cQ tu cj) [.int m,~~~t]=some (.dat .non)/\zZ (rn (n+48)) (k+5) (cQ tu cj) [.int m,~~~t]=none:=by
 have hl:=h.length;have hf:Ng (~~~t):=⟨by rw[dC];lia,λx hx=>Pl.ints hx⟩
 have q:=λn k=>(sA U hW hI hM (n:=n) (k:=k) m hm (~~~t) hf).1
 have q2:=λn k=>(sA U hW hI hM (n:=n) (k:=k) m hm (~~~t) hf).2
 have e:Nf m (~~~t)=true:=by rw[sy,b8];exact h
 rw[e]at q;constructor
 . unfold aU cQ;simp! [U,hT,aM (fx:=cP mw wh) rfl,q]
 . unfold zZ cQ;simp! [U,hT,aM (fx:=cP mw wh) rfl,q,q2]
include Yz
theorem De(m:Nat)(a b:List Int)(hm:1<=m/\m<=6)(ha:Tn m a)(hb:Tn m b):aU (rn (n+60)) (k+6) (kU mt) [.int m,~~~a,~~~b]=some (.dat (~~~(a.map (gt b)))):=by
 have w:=λn k=>gI (rn:=rn (n+10)) (bor:=[]) (k:=k) (g:=[.dat (.int m),.dat (~~~a),.dat (~~~b)]) (g1:=[.dat (.int m),.dat (~~~a),.dat (~~~b)]) (kk:=2) (nn:=3) (j:=4) (it:=.slot 1) (e:=.ix (.slot 2) (.slot 4)) a .int (λi=>.int (gt b i)) (by simp! [U,dg]) rfl ⋯ ⋯ ⋯ (au _ (by rw[ha.length];lia)) λi hi G' hG=>by
  have h2:G'[2]?=some (.dat (~~~b)):=hG.1 2 ⋯;have:=ha.mem.mp hi;have hbl:=hb.length;simp! [U,hG.2,h2,dZ (t:=b) (i:=i) ⋯]
 have q1:=λn k=>(jW U hW hI hM hT (cj:=cj) (n:=n) (k:=k) m a hm ha).1
 have q2:=λn k=>(jW U hW hI hM hT (cj:=cj) (n:=n) (k:=k) m b hm hb).1
 unfold aU kU;simp! [U,Yz,aM (fx:=cQ tu cj) rfl,q1,q2,w];rw[List.map_map];rfl
variable(kN:fns[it]?=some (iQ wi))(Df:fns[ri]?=some wO)(xB:fns[iw]?=some (iR wi it ri))(z9:fns[mb]?=some (bW iw cw))(hLe:fns[le]?=some (yU to))
include kN Df xB z9
include hLe VN in
theorem Dg(m:Nat)(aj:List (List Int))(t:List Int)(hm:1<=m/\m<=6)(h:Wb m aj)(ht:Tn m t):aU (rn (n+90)) (k+8) (jm mb mt le) [W m aj,~~~t]=some (.dat (W m (tw t aj))):=by
 have i0:n6 (W m aj) (.int 0)=some (.int m):=rfl;have q1:=λn k=>(jW U hW hI hM hT (cj:=cj) (n:=n) (k:=k) m t hm ht).1
 have q3:=λn k=>d8 (ci:=cw) U hW hI kN Df xB (n:=n) (k:=k) m aj hm h
 have q4:=λn k=>Im U VN (n:=n) (k:=k) m aj t h ht
 unfold aU jm;simp! [U,z9,aE (fx:=bW iw cw) rfl,q3,i0,Yz,aM (fx:=cQ tu cj) rfl,q1,hLe,aM (fx:=yU to) rfl,q4]
end
noncomputable def xC(i j:Int):List Int:=if i<j then [i,j]else [j,i]
theorem iS{i j:Int}(h:i≠j):xC i j=xC j i:=by unfold xC;split <;> split <;> first |rfl |lia
theorem yV(t:List Int)(a b:Int):tm t [a,b]=xC (gt t a) (gt t b):=dJ t a b
theorem iT{i j:Int}(h:i<j):xC i j=[i,j]:=eP h
theorem Io{m:Nat}{i j:Int}(hi:0<=i/\i<m)(hj:0<=j/\j<m)(h:i≠j):Pr m (xC i j):=by
 unfold xC;split
 . exact⟨_,_,rfl,by lia,by lia,by lia⟩
 . exact⟨_,_,rfl,by lia,by lia,by lia⟩
theorem uF{m:Nat}{t:List Int}(ht:Tn m t){i j:Int}(hi:0<=i/\i<m)(hj:0<=j/\j<m)(h:i≠j):tm t (xC i j)=xC (gt t i) (gt t j):=by
 by_cases hl:i<j
 . rw[iT hl,yV]
 . rw[iS h,iT (show j<i by lia),yV,iS λe=>h (ht.inj hj hi e).symm]
def Ut(i:Int)(x:List Int):Option Int:=if gt x 0=i then some (gt x 1)else if gt x 1=i then some (gt x 0)else none
def nb(i:Int)(aj:List (List Int)):List Int:=aj.filterMap (Ut i)
noncomputable def has(i:Int)(x:List Int):Bool:=decide (gt x 0=i)||decide (gt x 1=i)
theorem Ip(i:Int)(aj:List (List Int)):(nb i aj).length=aj.countP (has i):=by
 induction aj with
 |nil=>rfl
 |cons x l ih=>
  unfold nb at ih ⊢
  rw[v6,List.countP_cons];by_cases h1:gt x 0=i
  . simp[Ut,has,h1,ih]
  .
   by_cases h2:gt x 1=i
   . simp[Ut,has,h1,h2,ih]
   . simp[Ut,has,h1,h2,ih]
theorem uG{m:Nat}{aj:List (List Int)}(h:Wb m aj)(i y:Int):y∈nb i aj ↔ xC i y∈aj:=by
 unfold nb;rw[List.mem_filterMap];constructor
 .
  rintro⟨x,hx,e⟩;obtain⟨a,b,rfl,h1,h2,h3⟩:=h.tie x hx;unfold Ut at e;rw[(bE a b).1,(bE a b).2]at e;split at e
  . rename_i q;cases e;subst q;rw[iT h2];exact hx
  .
   split at e
   . rename_i q;cases e;subst q;rw[iS ⋯,iT h2];exact hx
   . cases e
 .
  intro hx;refine⟨_,hx,?_⟩;unfold xC at hx ⊢
  unfold Ut;split
  . rw[(bE i y).1,(bE i y).2,eP rfl]
  . rename_i q;rw[eQ q]at hx;obtain⟨a,b,e,h1,h2,h3⟩:=h.tie _ hx;injection e with e1 e2;injection e2 with e2 _;subst e1 e2;rw[(bE y i).1,(bE y i).2,eQ ⋯,eP rfl]
noncomputable def Nr(r h t:List Int):Bool:=decide (h.length=t.length)&&r.zipIdx.all λp=>decide ((p.2:Int)∈h)==decide (p.1∈t)
def uH(aj aC:List (List Int))(r:List Int)(x:Int):Bool:=Nr r (nb (r.length:Int) aj) (nb x aC)
def good(aj aC:List (List Int))(t:List Int):Bool:=(List.range t.length).all λi=>uH aj aC (t.take i) (t.getD i 0)
theorem Dh(aj aC:List (List Int))(r:List Int)(x:Int):good aj aC (r++[x])=(good aj aC r&&uH aj aC r x):=by
 unfold good;rw[dL,l7,List.range_succ,List.all_append]
 congr 1
 .
  rw[t7,eJ,eJ];refine forall_congr' λi=>forall_congr' λhi=>?_
  have hi:=lS.mp hi;rw[List.take_append_of_le_length ⋯,dE,dE,dA hi]
 . simp[dE]
def ext(m:Nat)(l:List (List Int)):List (List Int):=l.flatMap λr=>((nums m).filter λx=>!decide (x∈r)).map λx=>r++[x]
def bT(m:Nat):Nat->List (List Int)
 | 0=>[[]]
 |s+1=>ext m (bT m s)
def turnsOf(m:Nat):List (List Int):=bT m m
def Iq(m:Nat)(aj aC:List (List Int))(l:List (List Int)):List (List Int):=l.flatMap λr=>((nums m).filter λx=>!decide (x∈r)&&uH aj aC r x).map λx=>r++[x]
theorem wQ(m:Nat)(aj aC:List (List Int))(l:List (List Int)):Iq m aj aC (l.filter (good aj aC))=(ext m l).filter (good aj aC):=by
 induction l with
 |nil=>rfl
 |cons r l ih=>
  unfold Iq ext at ih ⊢
  rw[y3,List.filter_append,<- ih,AT];have e:(((nums m).filter λx=>!decide (x∈r)).map λx=>r++[x]).filter (good aj aC)=if good aj aC r=true then ((nums m).filter λx=>!decide (x∈r)&&uH aj aC r x).map λx=>r++[x]else []:=by
   rw[List.filter_map];have:(good aj aC ∘ λx=>r++[x])=λx=>good aj aC r&&uH aj aC r x:=funext λx=>Dh aj aC r x
   rw[this,List.filter_filter];split
   .
    rename_i h
    congr 1
    refine BI λx _=>?_
    rw[h,Bool.true_and,Bool.and_comm]
   .
    rename_i h;have hf:good aj aC r=false:=by simpa using h
    rw[List.map_eq_nil_iff,List.filter_eq_nil_iff];intro x _;rw[hf];simp
  rw[e];split
  . rw[y3]
  . rfl
theorem iU(m:Nat):∀s,(bT m s).length<=m ^ s
 | 0=>d5 1
 |s+1=>by
  have ih:=iU m s;have:∀l:List (List Int),(ext m l).length<=l.length * m:=λl=>by
   induction l with
   |nil=>simp[ext]
   |cons r l ih=>
    unfold ext at ih ⊢
    rw[y3,dL,dC,eI,Nat.succ_mul];have:=BU (λx=>!decide (x∈r)) (nums m)
    rw[iP]at this;lia
  exact hV (this _) (Nat.mul_le_mul_right m ih)
def PJ(m:Nat):Bool:=(turnsOf m).all (λt=>decide (bw t=nums m))&&decide ((turnsOf m).length<=720)
theorem okT1:PJ 1=true:=by decide +kernel
theorem okT2:PJ 2=true:=by decide +kernel
theorem okT3:PJ 3=true:=by decide +kernel
theorem okT4:PJ 4=true:=by decide +kernel
theorem okT5:PJ 5=true:=by decide +kernel
theorem okT6:PJ 6=true:=by decide +kernel
theorem d9{m:Nat}(hm:1<=m/\m<=6):(∀t∈turnsOf m,Tn m t)/\(turnsOf m).length<=720:=by
 have k:PJ m=true:=by
  obtain⟨h1,h2⟩:=hm
  match m,h1,h2 with
  | 1,_,_=>exact okT1
  | 2,_,_=>exact okT2
  | 3,_,_=>exact okT3
  | 4,_,_=>exact okT4
  | 5,_,_=>exact okT5
  | 6,_,_=>exact okT6
 unfold PJ at k;simp only[c8,eJ,b8]at k;exact⟨λt ht=>k.1 t ht,k.2⟩
theorem Ir{m:Nat}{aj aC:List (List Int)}{t:List Int}(h:Wb m aj)(h':Wb m aC)(ht:Tn m t):good aj aC t=true ↔ tw t aj=aC:=by
 have hl:=ht.length;have g1:good aj aC t=true ↔ ∀i:Nat,i<m->((nb (i:Int) aj).length=(nb (gt t i) aC).length/\∀j:Nat,j<i->((j:Int)∈nb (i:Int) aj ↔ gt t j∈nb (gt t i) aC)):=by
  unfold good uH Nr;simp only[eJ,lS,hl,c8,b8];refine forall_congr' λi=>forall_congr' λhi=>?_
  have e1:(t.take i).length=i:=by rw[rV];lia
  have e2:t.getD i 0=gt t i:=by simp[gt]
  rw[e1,e2];refine and_congr Iff.rfl ⟨λq j hj=>?_,λq p hp=>?_⟩
  .
   have hjl:j<t.length:=by lia
   have:=q (t[j],j) (by rw[List.mem_zipIdx_iff_getElem?];simp[hj,hjl])
   have e3:gt t j=t[j]:=by simp[gt,hjl]
   rw[e3];simpa using this
  .
   obtain⟨y,j⟩:=p;rw[List.mem_zipIdx_iff_getElem?]at hp;rw[List.getElem?_take]at hp;split at hp
   .
    rename_i hj;have hjl:j<t.length:=by lia
    have e3:gt t j=t[j]:=by simp[gt,hjl]
    rw[gL hjl]at hp;cases hp;have:=q j hj;rw[e3]at this;simpa using this
   . cases hp
 rw[g1];have hp:=bZ (O:=cT) (aj.map (tm t));constructor
 .
  intro q;have key:∀i j:Int,(0<=i/\i<m)->(0<=j/\j<m)->i≠j->(xC i j∈aj ↔ xC (gt t i) (gt t j)∈aC):=λi j hi hj eY=>by
   have lt:∀i j:Int,(0<=i/\i<m)->(0<=j/\j<m)->j<i->(xC i j∈aj ↔ xC (gt t i) (gt t j)∈aC):=λi j hi hj hlt=>by
    have:=(q i.toNat ⋯).2 j.toNat ⋯;rw[Int.toNat_of_nonneg hi.1,Int.toNat_of_nonneg hj.1,uG h,uG h']at this;exact this
   rcases Int.lt_or_gt_of_ne eY with hlt |hlt
   .
    rw[iS eY,iS λe=>eY (ht.inj hi hj e)]
    exact lt j i hj hi hlt
   . exact lt i j hi hj hlt
  refine (dW (List.Perm.symm ?_) (h'.VM.imp λ{x y} q=>gK.le_of_lt (O:=cT) q)).symm
  refine (AO (mz h.nodup λx hx y hy e=>uE ht (h.tie x hx) (h.tie y hy) e) h'.nodup).mpr λx=>?_
  rw[fA];constructor
  .
   rintro⟨y,hy,rfl⟩;obtain⟨a,b,rfl,h1,h2,h3⟩:=h.tie y hy;have:=(key a b ⋯ ⋯ ⋯).mp (by rw[iT h2];exact hy)
   rw[yV];exact this
  .
   intro hx;obtain⟨c,d,rfl,h1,h2,h3⟩:=h'.tie x hx;have Iu:∀c:Int,0<=c/\c<m->∃a:Int,(0<=a/\a<m)/\gt t a=c:=λc hc=>by
    obtain⟨j,hj,e⟩:=AU (ht.mem.mpr hc);exact⟨j,by lia,by simp[gt,hj,e]⟩
   obtain⟨a,ha,rfl⟩:=Iu c ⋯;obtain⟨b,hb,rfl⟩:=Iu d ⋯;have eY:a≠b:=λe=>by rw[e]at h2;lia
   have:=(key a b ha hb eY).mpr (by rw[iT h2];exact hx)
   exact⟨_,this,by rw[uF ht ha hb eY,iT h2]⟩
 .
  rintro rfl i hi;have hi':0<=(i:Int)/\(i:Int)<m:=by lia
  constructor
  .
   rw[Ip,Ip];unfold tw;rw[hp.countP_eq,List.countP_map];refine (List.countP_congr λx hx=>?_)
   obtain⟨a,b,rfl,h1,h2,h3⟩:=h.tie x hx;have inj:∀j:Int,0<=j/\j<m->(gt t j=gt t i ↔ j=i):=λj hj=>⟨λe=>ht.inj hj hi' e,λe=>by rw[e]⟩
   show has i [a,b]=true ↔ has (gt t i) (tm t [a,b])=true;rw[dJ];unfold has;have ia:=inj a ⋯;have ib:=inj b ⋯;split
   . rw[(bE a b).1,(bE a b).2,(bE (gt t a) (gt t b)).1,(bE (gt t a) (gt t b)).2];simp[ia,ib]
   . rw[(bE a b).1,(bE a b).2,(bE (gt t b) (gt t a)).1,(bE (gt t b) (gt t a)).2];simp[ia,ib];exact Or.comm
  .
   intro j hj;have hj':0<=(j:Int)/\(j:Int)<m:=by lia
   have eY:(i:Int)≠j:=by lia
   rw[uG h,uG h',<- uF ht hi' hj' eY];unfold tw;rw[hp.mem_iff,fA];constructor
   . intro hx;exact⟨_,hx,rfl⟩
   . rintro⟨y,hy,e⟩;rw[<- uE ht (h.tie y hy) (Io hi' hj' eY) e];exact hy
section
theorem qw{α:Type}{T:Tg}{last kk:Nat}{c:Option Ex}{e:Ex}(cZ:α->D)(f:α->D)(p:α->Bool)(st:α->G->G)(I:G->Prop)(hI:∀m,I m->m.length=kk)(dj:last=g.length+kk)(fh:∀d m,I m->I (st d m)) :
  ∀(ao:List α) (m:G) (acc:List D),I m->acc.length+ao.length<=lim->
  (∀d∈ao,∀m acc,I m->T.set (cZ d) (gM g m acc)=some (gM g (st d m) acc))->
  (∀d∈ao,∀m acc,I m->pM rn bor k c (gM g (st d m) acc)=some (p d,gM g (st d m) acc))->
  (∀d∈ao,p d=true->∀m acc,I m->eV rn bor k e (gM g (st d m) acc)=some (f d,gM g (st d m) acc))->
  ∃m',I m'/\yC rn bor k T last c e (ao.map cZ) (gM g m acc)=some (gM g m' (acc++(ao.filter p).map f))
 | [],m,acc,hm,_,_,_,_=>⟨m,hm,by simp[yC]⟩
 |d::ao,m,acc,hm,hl,hT,hi,he=>by
  rw[eI]at hl;have q1:=hT d bP m acc hm;have q2:=hi d bP m acc hm;have hm':=fh d m hm;have hk:=hI _ hm';rw[List.map_cons];unfold yC;rw[q1];dsimp only;rw[q2];cases hp:p d with
  |false=>
   dsimp only;obtain⟨m',w1,w2⟩:=qw cZ f p st I hI dj fh ao (st d m) acc hm' ⋯ (λx hx=>hT x (aS _ hx)) (λx hx=>hi x (aS _ hx)) (λx hx=>he x (aS _ hx))
   exact⟨m',w1,by rw[w2,AT,hp];rfl⟩
  |true=>
   have q3:=he d bP hp m acc hm;dsimp only;rw[q3];dsimp only;have q4:(gM g (st d m) acc)[last]?=some (.own acc):=by rw[dj,<- hk];exact jh
   rw[q4];dsimp only;rw[eP ⋯];have q5:(gM g (st d m) acc).set last (.own (acc++[f d]))=gM g (st d m) (acc++[f d]):=by rw[dj,<- hk];exact iL
   rw[q5];obtain⟨m',w1,w2⟩:=qw cZ f p st I hI dj fh ao (st d m) (acc++[f d]) hm' (by rw[dL,l7];lia) (λx hx=>hT x (aS _ hx)) (λx hx=>hi x (aS _ hx)) (λx hx=>he x (aS _ hx))
   refine⟨m',w1,?_⟩;rw[w2,AT,hp];simp
theorem sF{α β:Type}{kk nn j1 j2 last:Nat}{it:Ex}{c:Option Ex}{e:Ex}(bH:α->D)(ys:α->List β)(cE:β->D)(p:α->β->Bool)(f:α->β->D)(hn:nn=g.length)(dj:last=g.length+kk)(h11:g.length<=j1)(h12:j1<g.length+kk)(h21:g.length<=j2)(h22:j2<g.length+kk)(eY:j1≠j2) :
  ∀(xs:List α) (m:G) (acc:List D),m.length=kk->acc.length+(xs.flatMap ys).length<=lim->
  (∀a∈xs,∀G',wD g j1 (bH a) G'->dg rn bor k false it G'=some ((ys a).map cE,G'))->
  (∀a∈xs,∀b∈ys a,∀G',iM g j1 j2 (bH a) (cE b) G'->pM rn bor k c G'=some (p a b,G'))->
  (∀a∈xs,∀b∈ys a,p a b=true->∀G',iM g j1 j2 (bH a) (cE b) G'->eV rn bor k e G'=some (f a b,G'))->
  ∃m',m'.length=kk/\v8 rn bor k (.nm j1) none (.nm j2) it c e last (xs.map bH) (gM g m acc)=some (gM g m' (acc++xs.flatMap λa=>((ys a).filter (p a)).map (f a)))
 | [],m,acc,hm,_,_,_,_=>⟨m,hm,by simp[v8]⟩
 |a::xs,m,acc,hm,hl,hw,hi,he=>by
  rw[y3,dL]at hl;have q1:(Tg.nm j1).set (bH a) (gM g m acc)=some (gM g (m.set (j1 - g.length) (.dat (bH a))) acc):=uB (kk:=kk) h11 ⋯;have hm1:(m.set (j1 - g.length) (.dat (bH a))).length=kk:=by simpa using hm
  have sees:∀(m:G) (acc:List D),m.length=kk->m[j1 - g.length]?=some (.dat (bH a))->wD g j1 (bH a) (gM g m acc):=λm acc hm hg=>by
   refine⟨λi hi=>mq hi,?_⟩
   have:=dY (g:=g) (m:=m) (acc:=acc) (i:=j1 - g.length) ⋯;rw[show g.length+(j1 - g.length)=j1 by lia]at this
   rw[this,hg]
  have uM:(m.set (j1 - g.length) (.dat (bH a)))[j1 - g.length]?=some (.dat (bH a)):=by rw[fR ⋯]
  have q2:=hw a bP _ (sees _ acc hm1 uM);have PK:∀(b:β) (m:G) (acc:List D),(m.length=kk/\m[j1 - g.length]?=some (.dat (bH a)))->iM g j1 j2 (bH a) (cE b) (gM g (m.set (j2 - g.length) (.dat (cE b))) acc):=λb m acc hm=>by
   obtain⟨s1,s2⟩:=sees (m.set (j2 - g.length) (.dat (cE b))) acc (by simpa using hm.1) (by rw[eR ⋯];exact hm.2)
   refine⟨s1,s2,?_⟩;have:=dY (g:=g) (m:=m.set (j2 - g.length) (.dat (cE b))) (acc:=acc) (i:=j2 - g.length) (by rw[t6,hm.1];lia)
   rw[show g.length+(j2 - g.length)=j2 by lia]at this
   rw[this,fR (by rw[hm.1];lia)]
  obtain⟨m2,w1,w2⟩:=qw (rn:=rn) (bor:=bor) (k:=k) (g:=g) (T:=.nm j2) (last:=last) (kk:=kk) (c:=c) (e:=e) cE (f a) (p a) (λb m=>m.set (j2 - g.length) (.dat (cE b))) (λm=>m.length=kk/\m[j1 - g.length]?=some (.dat (bH a))) (λ_ h=>h.1) dj (λb m h=>⟨by simpa using h.1,by rw[eR ⋯];exact h.2⟩) (ys a) (m.set (j1 - g.length) (.dat (bH a))) acc ⟨hm1,uM⟩ ⋯
   (λb _ m acc h=>uB (kk:=kk) h21 (by have:=h.1;lia)) (λb hb m acc h=>hi a bP b hb _ (PK b m acc h)) λb hb hp m acc h=>he a bP b hb hp _ (PK b m acc h)
  have hf:=BU (p a) (ys a);obtain⟨m3,v1,v2⟩:=sF bH ys cE p f hn dj h11 h12 h21 h22 eY xs m2 (acc++((ys a).filter (p a)).map (f a)) w1.1 (by rw[dL,dC];lia) (λx hx=>hw x (aS _ hx)) (λx hx=>hi x (aS _ hx)) (λx hx=>he x (aS _ hx))
  refine⟨m3,v1,?_⟩;rw[List.map_cons];unfold v8;rw[q1];dsimp only[pM,Tg.fL];rw[q2];dsimp only;rw[w2];dsimp only;rw[v2,y3,v3]
theorem Aa{α β:Type}{kk nn j1 j2:Nat}{j3 it:Ex}{c:Option Ex}{e:Ex}(xs:List α)(bH:α->D)(ys:α->List β)(cE:β->D)(p:α->β->Bool)(f:α->β->D)(hw1:dg rn bor k false j3 g=some (xs.map bH,g1))(hn:nn=g1.length)(h11:g1.length<=j1)(h12:j1<g1.length+kk)(h21:g1.length<=j2)(h22:j2<g1.length+kk)(eY:j1≠j2)(hb1:j1∉bor)(hb2:j2∉bor)(hl:(xs.flatMap ys).length<=lim)
  (hw:∀a∈xs,∀G',wD g1 j1 (bH a) G'->dg rn bor k false it G'=some ((ys a).map cE,G'))
  (hi:∀a∈xs,∀b∈ys a,∀G',iM g1 j1 j2 (bH a) (cE b) G'->pM rn bor k c G'=some (p a b,G'))
  (he:∀a∈xs,∀b∈ys a,p a b=true->∀G',iM g1 j1 j2 (bH a) (cE b) G'->eV rn bor k e G'=some (f a b,G')) :
  jP rn bor k nn kk (.nm j1) j3 none (.nm j2) it c e g=some (xs.flatMap λa=>((ys a).filter (p a)).map (f a),g1):=by
 subst hn;obtain⟨m',w1,w2⟩:=sF (rn:=rn) (bor:=bor) (k:=k) (g:=g1) (it:=it) (c:=c) (e:=e) (last:=g1.length+kk) bH ys cE p f rfl rfl h11 h12 h21 h22 eY xs (List.replicate kk .no) [] ⋯ (by simpa using hl) hw hi he
 unfold jP;rw[show Tg.fL (.nm j1)=false from rfl,hw1]
 dsimp only;rw[eP ⟨rfl,by simp[Tg.ix,hb1,hb2]⟩,HF,w2]
 dsimp only;have:∀acc,(gM g1 m' acc)[g1.length+kk]?=some (.own acc):=λacc=>by rw[<- w1];exact jh
 rw[this];dsimp only;rw[uz,AE]
theorem wR{α β:Type}(ys:List β):∀xs:List α,(xs.flatMap λ_=>ys).length=xs.length * ys.length
 | []=>by simp
 |_::xs=>by rw[y3,dL,wR ys xs,eI,Nat.succ_mul,Nat.add_comm]
theorem Iv{α β:Type}{kk nn j1 j2:Nat}{j3 it:Ex}{c:Option Ex}{e:Ex}(xs:List α)(bH:α->D)(ys:List β)(cE:β->D)(p:α->β->Bool)(f:α->β->D)(hw1:dg rn bor k false j3 g=some (xs.map bH,g1))(hn:nn=g1.length)(h11:g1.length<=j1)(h12:j1<g1.length+kk)(h21:g1.length<=j2)(h22:j2<g1.length+kk)(eY:j1≠j2)(hb1:j1∉bor)(hb2:j2∉bor)(hl:xs.length * ys.length<=lim)
  (hw:∀a∈xs,∀G',wD g1 j1 (bH a) G'->dg rn bor k false it G'=some (ys.map cE,G'))
  (hi:∀a∈xs,∀b∈ys,∀G',iM g1 j1 j2 (bH a) (cE b) G'->pM rn bor k c G'=some (p a b,G'))
  (he:∀a∈xs,∀b∈ys,p a b=true->∀G',iM g1 j1 j2 (bH a) (cE b) G'->eV rn bor k e G'=some (f a b,G')) :
  jP rn bor k nn kk (.nm j1) j3 none (.nm j2) it c e g=some (xs.flatMap λa=>(ys.filter (p a)).map (f a),g1):=Aa xs bH (λ_=>ys) cE p f hw1 hn h11 h12 h21 h22 eY hb1 hb2 (by rw[wR];exact hl) hw hi he
end
theorem qV{m:Nat}(F:Nat->List Int)(a:Nat)(v:List Int):((List.range m).map λi=>(F i).map D.int).set a (v.map .int)=(List.range m).map λi=>(if i=a then v else F i).map D.int:=by
 refine List.ext_getElem ⋯ λi h1 h2=>?_
 rw[List.getElem_set];simp only[List.getElem_map,List.getElem_range];by_cases h:a=i
 . subst h;simp
 . rw[eQ h,eQ λe=>h e.symm]
theorem wU{m:Nat}:∀(aj:List (List Int)) (F:Nat->List Int) (c:Nat),(∀x∈aj,Pr m x)->(∀i,(F i).length<=c)->c+aj.length<=900->
  iD (aj.map λx=>~~~x) ((List.range m).map λi=>(F i).map D.int)=some ((List.range m).map λi=>(F i++nb (i:Int) aj).map D.int)
 | [],F,c,_,_,_=>by simp[iD,nb]
 |x::aj,F,c,hx,hF,hc=>by
  obtain⟨a,b,rfl,h1,h2,h3⟩:=hx x bP;obtain⟨a,rfl⟩:∃n:Nat,a=n:=⟨a.toNat,by lia⟩
  obtain⟨b,rfl⟩:∃n:Nat,b=n:=⟨b.toNat,by lia⟩
  rw[eI]at hc;have ga:((List.range m).map λi=>(F i).map D.int)[a]?=some ((F a).map D.int):=by rw[nE,Cc ⋯];rfl
  have la:((F a).map D.int).length<1000:=by rw[dC];have:=hF a;lia
  have e1:(F a).map D.int++[.int b]=(F a++[(b:Int)]).map D.int:=by rw[n4];rfl
  have gb:((List.range m).map λi=>(if i=a then F a++[(b:Int)]else F i).map D.int)[b]?=some ((F b).map D.int):=by rw[nE,Cc ⋯];simp only[A3];rw[eQ ⋯]
  have lb:((F b).map D.int).length<1000:=by rw[dC];have:=hF b;lia
  have e2:(F b).map D.int++[.int a]=(F b++[(a:Int)]).map D.int:=by rw[n4];rfl
  have q:vN ((List.range m).map λi=>(F i).map D.int) (.tup [.int a,.int b])=some ((List.range m).map λi=>(if i=b then F b++[(a:Int)]else if i=a then F a++[(b:Int)]else F i).map D.int):=by
   unfold vN;dsimp only;rw[eP (show (0:Int)<=a/\(0:Int)<=b by lia)]
   simp only[nN,ga,la,u7,e1,qV,gb,lb,e2]
  have ih:=wU aj (λi=>if i=b then F b++[(a:Int)]else if i=a then F a++[(b:Int)]else F i) (c+1) (λx hx'=>hx x (aS _ hx')) (λi=>by
   show (if i=b then F b++[(a:Int)]else if i=a then F a++[(b:Int)]else F i).length<=c+1
   have:=hF a;have:=hF b;have:=hF i;split
   . simp;lia
   .
    split
    . simp;lia
    .
     lia) ⋯
  have e3:List.map (λx=>~~~x) ([(a:Int),(b:Int)]::aj)=.tup [.int a,.int b]::aj.map λx=>~~~x:=rfl
  rw[e3];unfold iD;rw[q];dsimp only;rw[ih]
  congr 1
  refine kS λi hi=>?_
  congr 1
  unfold nb;rw[v6];unfold Ut;rw[(bE (a:Int) b).1,(bE (a:Int) b).2];by_cases q1:i=a
  . subst q1;rw[eQ ⋯,eP rfl,eP rfl];simp
  .
   by_cases q2:i=b
   . subst q2;rw[eP rfl,eQ ⋯,eP rfl];simp
   . rw[eQ q2,eQ q1,eQ ⋯,eQ ⋯]
noncomputable def qx:Fx:=⟨2,5,[(.rows 0 1 2 3 4)]⟩
noncomputable def qy:Fx:=⟨3,3,[(.ite (.cmp .NotEq (.blt .len [(.slot 1)]) (.blt .len [(.slot 2)])) [(.ret (.val (.bl false)))] []),(.ret (.blt .all [(.comp 3 3 (.tp [4,5]) (.enum (.slot 0)) none (.cmp .Eq (.cmp .In (.slot 4) (.slot 1)) (.cmp .In (.slot 5) (.slot 2))))]))]⟩
noncomputable def eO(ro fi:Nat):Fx:=⟨2,7,[(.set 2 (.ix (.slot 0) (.val (.int 0)))),(.set 3 (.call ro [(.slot 2),(.ix (.slot 0) (.val (.int 1)))])),(.set 4 (.call ro [(.slot 2),(.ix (.slot 1) (.val (.int 1)))])),(.set 5 (.lst [(.tup [])])),(.loop (.nm 6) (.cM (.slot 2)) [(.setC 5 (.bN 7 3 (.nm 8) (.slot 5) none (.nm 9) (.cM (.slot 2)) (some (.and [(.cmp .NotIn (.slot 9) (.slot 8)),(.call fi [(.slot 8),(.ix (.slot 3) (.slot 6)),(.ix (.slot 4) (.slot 9))])])) (.bin .Add (.slot 8) (.tup [(.slot 9)]))))]),(.ret (.slot 5))]⟩
def Rw(m:Nat)(aj:List (List Int)):D:=.lst ((List.range m).map λ(i:Nat)=>.lst ((nb (i:Int) aj).map .int))
section
variable{ro fi:Nat}(U:ju fns rn)
include U
theorem Ad(m:Nat)(hm:m<=6)(aj:List (List Int))(h:Wb m aj):aU (rn (n+5)) k qx [.int m,.tup (aj.map λx=>~~~x)]=some (.dat (Rw m aj)):=by
 have q:=wU (m:=m) aj (λ_=>[]) 0 h.tie (λ_=>d5 0) (by have:=h.len;lia)
 have e:(List.range m).map (λi=>List.map D.int ((λ_=>[]) i:List Int))=List.replicate m []:=by rw[List.eq_replicate_iff];simp
 rw[e]at q;have h0:(0:Int)<=m/\(m:Int)<=1000:=by lia
 unfold aU qx;simp! [U,q,h0];unfold Rw;rw[List.map_map];simp
omit U in
theorem Uu(x:Int)(l:List Int):eU .In (.int x) (.lst (l.map .int))=some (decide (x∈l)):=by
 have h:iH (.int x) (l.map .int)=true:=by simp[iH,gF,dB,fE]
 simp only[eU,bF,h,u7]
 congr 1
 rw[t7];simp[cD]
omit U in
theorem mG(x:Int)(l:List Int):eU .NotIn (.int x) (~~~l)=some (!decide (x∈l)):=by
 have h:iH (.int x) (l.map .int)=true:=by simp[iH,gF,dB,fE]
 simp only[eU,bF,h,u7]
 congr 2
 rw[t7];simp[cD]
omit U in
theorem Uv(a b:Bool):eU .Eq (.bl a) (.bl b)=some (a==b):=rfl
omit U in
theorem sG:∀(l:List Int) ,nh (l.map .int)=l.zipIdx.map λp=>.tup [.int (p.2:Int),.int p.1]:=by intro l;unfold nh;rw[List.zipIdx_map,List.map_map];rfl
theorem Nt(r h t:List Int)(hr:r.length<=1000):aU (rn (n+20)) k qy [~~~r,.lst (h.map .int),.lst (t.map .int)]=some (.dat (.bl (Nr r h t))):=by
 have w:=λn k=>HJ (rn:=rn (n+10)) (bor:=[]) (k:=k) (g:=[.dat (~~~r),.dat (.lst (h.map .int)),.dat (.lst (t.map .int))]) (g1:=[.dat (~~~r),.dat (.lst (h.map .int)),.dat (.lst (t.map .int))]) (kk:=3) (nn:=3) (j1:=4) (j2:=5) (it:=.enum (.slot 0)) (e:=.cmp .Eq (.cmp .In (.slot 4) (.slot 1)) (.cmp .In (.slot 5) (.slot 2))) r.zipIdx (λp=>.int (p.2:Int)) (λp=>.int p.1) (λp=>.bl (decide ((p.2:Int)∈h)==decide (p.1∈t))) (by simp! [U,dg,bF,sG]) rfl ⋯ ⋯ ⋯ ⋯ ⋯ ⋯ ⋯ (au _ (by simpa using hr)) λp hp G' hG=>by
  have h1:G'[1]?=some (.dat (.lst (h.map .int))):=hG.1 1 ⋯;have h2:G'[2]?=some (.dat (.lst (t.map .int))):=hG.1 2 ⋯;simp! [U,hG.2.1,hG.2.2,h1,h2,Uu,Uv]
 have e1:r.zipIdx.map (λp=>D.bl (decide ((p.2:Int)∈h)==decide (p.1∈t)))=(r.zipIdx.map λp=>decide ((p.2:Int)∈h)==decide (p.1∈t)).map .bl:=by rw[List.map_map];rfl
 have e2:(r.zipIdx.map λp=>decide ((p.2:Int)∈h)==decide (p.1∈t)).all id=r.zipIdx.all λp=>decide ((p.2:Int)∈h)==decide (p.1∈t):=by rw[BN];rfl
 unfold aU qy Nr;by_cases hl:h.length=t.length
 . simp! [U,w,e1,e2,hl]
 .
  have hl' : ¬ (h.length:Int)=t.length:=by lia
  simp! [U,hl,hl']
variable(hR:fns[ro]?=some qx)(hF:fns[fi]?=some qy)
include hR hF
theorem YC(m s:Nat)(hm:m<=6)(hs:s<m)(aj aC:List (List Int))(l:List (List Int))(hl:l.length<=50000)(hr:∀r∈l,r.length=s)(d0 d1:D):aR (rn (n+40)) [] (k+1) (.setC 5 (.bN 7 3 (.nm 8) (.slot 5) none (.nm 9) (.cM (.slot 2)) (some (.and [(.cmp .NotIn (.slot 9) (.slot 8)),(.call fi [(.slot 8),(.ix (.slot 3) (.slot 6)),(.ix (.slot 4) (.slot 9))])])) (.bin .Add (.slot 8) (.tup [(.slot 9)])))) [.dat d0,.dat d1,.dat (.int m),.dat (Rw m aj),.dat (Rw m aC),.own (l.map λr=>~~~r),.dat (.int s)]=some (.nx,[.dat d0,.dat d1,.dat (.int m),.dat (Rw m aj),.dat (Rw m aC),.own ((Iq m aj aC l).map λr=>~~~r),.dat (.int s)]):=by
 have hg:bU 0 m=(nums m).map .int:=iO m;have w:=Iv (rn:=rn (n+40)) (bor:=[]) (k:=k+1) (g:=[.dat d0,.dat d1,.dat (.int m),.dat (Rw m aj),.dat (Rw m aC),.own (l.map λr=>~~~r),.dat (.int s)]) (g1:=[.dat d0,.dat d1,.dat (.int m),.dat (Rw m aj),.dat (Rw m aC),.dat (.lst (l.map λr=>~~~r)),.dat (.int s)]) (nn:=7) (kk:=3) (j1:=8) (j2:=9) (j3:=.slot 5) (it:=.cM (.slot 2)) (c:=some (.and [(.cmp .NotIn (.slot 9) (.slot 8)),(.call fi [(.slot 8),(.ix (.slot 3) (.slot 6)),(.ix (.slot 4) (.slot 9))])])) (e:=.bin .Add (.slot 8) (.tup [(.slot 9)])) l (λr=>~~~r) (nums m) .int (λr x=>!decide (x∈r)&&uH aj aC r x) (λr x=>~~~(r++[x])) (by simp! [U,dg]) rfl ⋯ ⋯ ⋯ ⋯ ⋯ ⋯ ⋯ (by
   rw[iP];have:l.length * m<=50000 * 6:=Nat.mul_le_mul hl hm;exact hV this ⋯) (λr hr G' hG=>by
   have h2:G'[2]?=some (.dat (.int m)):=hG.1 2 ⋯;simp! [U,dg,h2,aD m ⋯,hg]) (λr hr' x hx G' hG=>by
   have h3:G'[3]?=some (.dat (Rw m aj)):=hG.1 3 ⋯;have h4:G'[4]?=some (.dat (Rw m aC)):=hG.1 4 ⋯;have h6:G'[6]?=some (.dat (.int s)):=hG.1 6 ⋯;have hx':=eL.mp hx;have i3:n6 (Rw m aj) (.int s)=some (.lst ((nb (s:Int) aj).map .int)):=by
    show L2.fB _ _=_;rw[kQ _ _ (by simpa using hs)]
    simp
   have i4:n6 (Rw m aC) (.int x)=some (.lst ((nb x aC).map .int)):=by
    obtain⟨x,rfl⟩:∃n:Nat,x=n:=⟨x.toNat,by lia⟩
    show L2.fB _ _=_;rw[kQ _ _ (by simp;lia)]
    simp
   have f:=λn k=>Nt U (n:=n) (k:=k) r (nb (s:Int) aj) (nb x aC) (by rw[hr r hr'];lia)
   unfold uH;rw[hr r hr'];by_cases hin:x∈r
   . simp! [U,pM,hG.2.1,hG.2.2,h3,h4,h6,i3,i4,mG,hin]
   .
    simp! [U,pM,hG.2.1,hG.2.2,h3,h4,h6,i3,i4,mG,hin,hF,bh (fx:=qy) rfl,f]) λr hr' x hx _ G' hG=>by
   have o:qR .Add (~~~r) (.tup [.int x])=some (.dat (~~~(r++[x]))):=by
    have hlr:(List.map D.int r).length+[D.int x].length<=lim:=au _ (by rw[dC,hr r hr'];simp;lia)
    simp only[qR,G3,hlr,u7,n4];rfl
   simp! [U,hG.2.1,hG.2.2,o,au 1 ⋯]
 have e:(l.flatMap λr=>((nums m).filter λx=>!decide (x∈r)&&uH aj aC r x).map λx=>~~~(r++[x]))=(Iq m aj aC l).map λr=>~~~r:=by
  unfold Iq;rw[List.map_flatMap]
  congr 1
  funext r
  rw[List.map_map];rfl
 rw[e]at w;simp only[aR,w];simp
theorem qz(m:Nat)(hm:1<=m/\m<=6)(aj aC:List (List Int))(h:Wb m aj)(h':Wb m aC):aU (rn (n+60)) (k+2) (eO ro fi) [W m aj,W m aC]=some (.new (((turnsOf m).filter (good aj aC)).map λr=>~~~r)):=by
 have len:∀s r,r∈bT m s->r.length=s:=λs=>by
  induction s with
  |zero=>intro r hr;cases i6.mp hr;rfl
  |succ s ih=>intro r hr;unfold bT ext at hr;obtain⟨q,hq,hr⟩:=B2.mp hr;obtain⟨x,_,rfl⟩:=fA.mp hr;rw[dL,ih q hq];rfl
 have big:∀s,s<=m->(bT m s).length<=50000:=λs hs=>hV (iU m s) (hV (Nat.pow_le_pow_left hm.2 s) (hV (Nat.pow_le_pow_right ⋯ (show s<=6 by lia)) ⋯))
 have loop:=cB (T:=.nm 6) (b:=(rn (n+59)).b [] (k+2) [(.setC 5 (.bN 7 3 (.nm 8) (.slot 5) none (.nm 9) (.cM (.slot 2)) (some (.and [(.cmp .NotIn (.slot 9) (.slot 8)),(.call fi [(.slot 8),(.ix (.slot 3) (.slot 6)),(.ix (.slot 4) (.slot 9))])])) (.bin .Add (.slot 8) (.tup [(.slot 9)]))))]) (λ(j:Nat)=>D.int (j:Int))
  (I:=λl g=>∃(j:Nat) (s6:Slot),j<=m/\l=List.range' j (m - j)/\g=[.dat (W m aj),.dat (W m aC),.dat (.int m),.dat (Rw m aj),.dat (Rw m aC),.own (((bT m j).filter (good aj aC)).map λr=>~~~r),s6])
  (step:=λa l g h=>by
   obtain⟨j,s6,h0,h1,rfl⟩:=h;have VP:j<m:=by
    rcases sB j m with h |h
    . exact h
    . rw[AJ h]at h1;cases h1
   have hc:List.range' j (m - j)=j::List.range' (j+1) (m - (j+1)):=by rw[show m - j=(m - (j+1))+1 by lia,xI]
   rw[hc]at h1;injection h1 with e1 e2;subst e1 e2;have q:=YC U hR hF (n:=n+18) (k:=k+1) m a hm.2 VP aj aC ((bT m a).filter (good aj aC)) (hV (BU _ _) (big a ⋯)) (λr hr=>len a r (i7.mp hr).1) (W m aj) (W m aC)
   rw[wQ]at q;refine⟨_,_,rfl,?_,a+1,.dat (.int a),by lia,rfl,rfl⟩
   rw[U.b];exact (aL (rest:=[]) q).trans rfl)
 obtain⟨g',⟨j,s6,h0,h1,rfl⟩,h2⟩:=loop (List.range' 0 m) [.dat (W m aj),.dat (W m aC),.dat (.int m),.dat (Rw m aj),.dat (Rw m aC),.own [~~~[]],.no] ⟨0,.no,by lia,rfl,rfl⟩
 have hj:j=m:=by
  have:(List.range' j (m - j)).length=0:=by rw[<- h1];rfl
  rw[Bz]at this;lia
 subst hj;have hr:bU 0 j=(List.range' 0 j).map λ(x:Nat)=>D.int (x:Int):=by unfold bU;rw[pV];exact kS λx _=>by rw[CA]
 have i0:n6 (W j aj) (.int 0)=some (.int j):=rfl;have i1:n6 (W j aj) (.int 1)=some (.tup (aj.map λx=>~~~x)):=rfl
 have i2:n6 (W j aC) (.int 1)=some (.tup (aC.map λx=>~~~x)):=rfl
 have r1:=λn k=>Ad U (n:=n) (k:=k) j hm.2 aj h
 have r2:=λn k=>Ad U (n:=n) (k:=k) j hm.2 aC h'
 have t0:D.tup [] = ~~~[]:=rfl;unfold aU eO turnsOf;simp! [U,i0,i1,i2,hR,aM (fx:=qx) rfl,r1,r2,au 0 ⋯,au 1 ⋯,Tg.ix,Tg.fL,dg,aD j ⋯,hr,t0,h2]
end
noncomputable def qB(mw tt:Nat):Fx:=⟨2,3,[(.expr (.call mw [(.slot 0)])),(.expr (.call mw [(.slot 1)])),(.ite (.cmp .NotEq (.ix (.slot 0) (.val (.int 0))) (.ix (.slot 1) (.val (.int 0)))) [(.ret (.val .non))] []),(.set 2 (.call tt [(.slot 0),(.slot 1)])),(.ret (.ite (.slot 2) (.ix (.slot 2) (.val (.int 0))) (.val .non)))]⟩
noncomputable def wV(mw tt:Nat):Fx:=⟨1,1,[(.expr (.call mw [(.slot 0)])),(.ret (.call tt [(.slot 0),(.slot 0)]))]⟩
def led(m:Nat)(aj:List (List Int))(m':Nat)(aC:List (List Int)):List (List Int):=(turnsOf m).filter λt=>decide (m=m'/\tw t aj=aC)
noncomputable def YD:List (List Int)->D
 | []=>.non
 |t::_=>~~~t
theorem wW{m:Nat}(hm:1<=m/\m<=6){aj aC:List (List Int)}(h:Wb m aj)(h':Wb m aC):(turnsOf m).filter (good aj aC)=led m aj m aC:=by
 refine BI λt ht=>?_
 rw[t7,Ir h h' ((d9 hm).1 t ht),b8];exact⟨λe=>⟨rfl,e⟩,λe=>e.2⟩
theorem Nu{m m':Nat}(h:m≠m')(aj aC:List (List Int)):led m aj m' aC=[]:=List.filter_eq_nil_iff.mpr λt _=>by simp[h]
section
variable{wh wi it ri iw ci mw ro fi tt:Nat}(U:ju fns rn)
include U
variable(hW:fns[wh]?=some bI)(hI:fns[wi]?=some (bD wh))(kN:fns[it]?=some (iQ wi))(Df:fns[ri]?=some wO)(xB:fns[iw]?=some (iR wi it ri))(z9:fns[mw]?=some (bW iw ci))(hR:fns[ro]?=some qx)(hF:fns[fi]?=some qy)(hTT:fns[tt]?=some (eO ro fi))
include hW hI kN Df xB z9 hR hF hTT
theorem Iw(m m':Nat)(hm:1<=m/\m<=6)(hm':1<=m'/\m'<=6)(aj aC:List (List Int))(h:Wb m aj)(h':Wb m' aC):aU (rn (n+90)) (k+8) (qB mw tt) [W m aj,W m' aC]=some (.dat (YD (led m aj m' aC))):=by
 have q1:=λn k=>d8 (ci:=ci) U hW hI kN Df xB (n:=n) (k:=k) m aj hm h
 have q2:=λn k=>d8 (ci:=ci) U hW hI kN Df xB (n:=n) (k:=k) m' aC hm' h'
 have i0:∀m aj,n6 (W m aj) (.int 0)=some (.int m):=λ_ _=>rfl
 unfold aU qB;by_cases e:m=m'
 .
  subst e;have q3:=λn k=>qz U hR hF (n:=n) (k:=k) m hm aj aC h h'
  rw[wW hm h h']at q3;cases hl:led m aj m aC with
  |nil=>rw[hl]at q3;simp! [U,z9,aE (fx:=bW iw ci) rfl,q1,q2,i0,hTT,aM (fx:=eO ro fi) rfl,q3];rfl
  |cons t l=>
   rw[hl]at q3;have a0:L2.fB ((t::l).map λr=>~~~r) 0=some (~~~t):=by simp[L2.fB,L2.nR]
   simp! [U,z9,aE (fx:=bW iw ci) rfl,q1,q2,i0,hTT,aM (fx:=eO ro fi) rfl,q3,a0];rfl
 .
  have e' : ¬ (m:Int)=m':=by lia
  rw[Nu e];simp! [U,z9,aE (fx:=bW iw ci) rfl,q1,q2,i0,e'];rfl
theorem Uw(m:Nat)(hm:1<=m/\m<=6)(aj:List (List Int))(h:Wb m aj):aU (rn (n+90)) (k+8) (wV mw tt) [W m aj]=some (.new ((led m aj m aj).map λr=>~~~r)):=by
 have q1:=λn k=>d8 (ci:=ci) U hW hI kN Df xB (n:=n) (k:=k) m aj hm h
 have q3:=λn k=>qz U hR hF (n:=n) (k:=k) m hm aj aj h h
 rw[wW hm h h]at q3;unfold aU wV;simp! [U,z9,aE (fx:=bW iw ci) rfl,q1,hTT,aM (fx:=eO ro fi) rfl,q3]
end
noncomputable def gk:Fx:=⟨1,3,[(.set 1 (.lst [])),(.loop (.nm 2) (.cM (.slot 0)) [(.expr (.extend 1 (.comp 3 2 (.nm 4) (.cO (.bin .Add (.slot 2) (.val (.int 1))) (.slot 0)) none (.tup [(.slot 2),(.slot 4)]))))]),(.ret (.slot 1))]⟩
def Nv(ti:Nat):Option Ex:=some (.cmp .Lt (.call ti [(.slot 0),(.val (.int 8))]) (.ix (.lst [(.val (.int 2)),(.val (.int 4)),(.val (.int 6))]) (.bin .Mod (.slot 3) (.val (.int 3)))))
def Nx:List Sm:=[(.expr (.append 4 (.blt .tuple [(.blt .sorted [(.lst [(.ix (.slot 5) (.slot 6)),(.ix (.slot 5) (.ix (.lst [(.bin .Sub (.slot 6) (.val (.int 1))),(.bin .Sub (.slot 6) (.val (.int 1))),(.val (.int 0)),(.bin .FloorDiv (.slot 6) (.val (.int 2)))]) (.bin .Sub (.slot 3) (.val (.int 3)))))])])])))]
def Iz:Sm:=.ite (.and [(.cmp .Eq (.slot 3) (.val (.int 4))),(.cmp .Gt (.slot 2) (.val (.int 2)))]) [(.expr (.append 4 (.blt .tuple [(.blt .sorted [(.lst [(.ix (.slot 5) (.val (.int 0))),(.ix (.slot 5) (.bin .Sub (.slot 2) (.val (.int 1))))])])])))] []
noncomputable def Ny(ti:Nat):Option Ex:=some (.cmp .Eq (.call ti [(.slot 0),(.val (.int 12))]) (.val (.int 0)))
noncomputable def Nz:Option Ex:=some (.cmp .NotEq (.cmp .In (.slot 9) (.slot 4)) (.cmp .In (.slot 9) (.slot 7)))
noncomputable def Ux(ti:Nat):Sm:=.set 2 (.blt .max [(.val (.int 1)),(.bin .Sub (.slot 1) (.ix (.lst [(.val (.int 0)),(.val (.int 4)),(.val (.int 1)),(.val (.int 0)),(.val (.int 2)),(.val (.int 1)),(.val (.int 3)),(.slot 1)]) (.call ti [(.slot 0),(.val (.int 8))])))])
def NB(ti pi:Nat):Sm:=.ite (.cmp .Gt (.slot 3) (.val (.int 2))) [(.set 4 (.lst [])),(.loop (.nm 6) (.cO (.val (.int 1)) (.slot 2)) Nx),Iz,(.set 7 (.comp 8 2 (.nm 9) (.call pi [(.slot 2)]) (Ny ti) (.slot 9))),(.set 4 (.comp 8 2 (.nm 9) (.call pi [(.slot 2)]) Nz (.slot 9)))] []
def Di(ti pi mi:Nat):Fx:=⟨2,8,[(Ux ti),(.set 3 (.call ti [(.slot 0),(.val (.int 7))])),(.set 4 (.comp 8 2 (.nm 9) (.call pi [(.slot 2)]) (Nv ti) (.slot 9))),(.set 5 (.call mi [(.slot 0),(.cU (.slot 2))])),(NB ti pi),(.ret (.tup [(.slot 2),(.blt .tuple [(.blt .sorted [(.slot 4)])])]))]⟩
noncomputable def mH(m a:Nat):List (List Int):=(List.range (m - (a+1))).map λ(j:Nat)=>[(a:Int),(a:Int)+1+(j:Int)]
def pacc(m j:Nat):List (List Int):=((List.range j).map (mH m)).flatten
theorem sH(m j:Nat):pacc m (j+1)=pacc m j++mH m j:=by simp[pacc,List.range_succ]
theorem wX(m:Nat):∀j,(pacc m j).length<=j * m
 | 0=>by simp[pacc]
 |j+1=>by
  rw[sH,dL,Nat.succ_mul];have:=wX m j;have h2:(mH m j).length<=m:=by simp[mH]
  lia
def prs(m:Nat):List (List Int):=pacc m m
def okP(m:Nat):Bool:=(prs m).all (λx=>match x with | [a,b]=>decide (0<=a)&&decide (a<b)&&decide (b<m) |_=>false)&&decide ((prs m).Nodup)&&decide ((prs m).length<=15)
theorem NC{m:Nat}(hm:1<=m/\m<=6):okP m=true:=by
 obtain⟨h1,h2⟩:=hm
 match m,h1,h2 with
 | 1,_,_=>decide +kernel
 | 2,_,_=>decide +kernel
 | 3,_,_=>decide +kernel
 | 4,_,_=>decide +kernel
 | 5,_,_=>decide +kernel
 | 6,_,_=>decide +kernel
theorem iV{m:Nat}(hm:1<=m/\m<=6):(∀x∈prs m,Pr m x)/\(prs m).Nodup/\(prs m).length<=15:=by
 have:=NC hm;unfold okP at this;simp only[c8,b8,eJ]at this;obtain⟨⟨h1,h2⟩,h3⟩:=this;refine⟨λx hx=>?_,h2,h3⟩
 have:=h1 x hx;split at this
 . rename_i a b;simp only[c8,b8]at this;exact⟨a,b,rfl,this.1.1,this.1.2,this.2⟩
 . cases this
theorem Wb.Uy{m:Nat}(hm:1<=m/\m<=6){l:List (List Int)}(h:l.Sublist (prs m)):Wb m (bV cT l):=by
 obtain⟨h1,h2,h3⟩:=iV hm;have hp:=bZ (O:=cT) l;refine⟨λx hx=>h1 x (h.subset (hp.mem_iff.mp hx)),jB (h.nodup h2),?_⟩
 rw[hp.length_eq];exact hV h.length_le h3
section
variable{ti pi mi:Nat}(U:ju fns rn)(hT:fns[ti]?=some cW)(hP:fns[pi]?=some gk)(hM:fns[mi]?=some (nQ ti))
include U
theorem qC(m:Nat)(hm:1<=m/\m<=6):aU (rn (n+30)) k gk [.int m]=some (.new ((prs m).map λx=>~~~x)):=by
 have loop:=cB (T:=.nm 2) (b:=(rn (n+29)).b [] k [(.expr (.extend 1 (.comp 3 2 (.nm 4) (.cO (.bin .Add (.slot 2) (.val (.int 1))) (.slot 0)) none (.tup [(.slot 2),(.slot 4)]))))]) (λ(j:Nat)=>D.int (j:Int))
  (I:=λl g=>∃(j:Nat) (s2:Slot),j<=m/\l=List.range' j (m - j)/\g=[.dat (.int m),.own ((pacc m j).map λx=>~~~x),s2])
  (step:=λa l g h=>by
   obtain⟨j,s2,h0,h1,rfl⟩:=h;have VP:j<m:=by
    rcases sB j m with h |h
    . exact h
    . rw[AJ h]at h1;cases h1
   have hc:List.range' j (m - j)=j::List.range' (j+1) (m - (j+1)):=by rw[show m - j=(m - (j+1))+1 by lia,xI]
   rw[hc]at h1;injection h1 with e1 e2;subst e1 e2;have aJ:(pacc m a).length<=36:=hV (wX m a) (hV (Nat.mul_le_mul (show a<=6 by lia) hm.2) ⋯)
   have hlr:(mH m a).length<=6:=by simp[mH];lia
   have w:=gI (rn:=rn (n+26)) (bor:=[]) (k:=k) (g:=[.dat (.int m),.own ((pacc m a).map λx=>~~~x),.dat (.int a)]) (g1:=[.dat (.int m),.own ((pacc m a).map λx=>~~~x),.dat (.int a)]) (kk:=2) (nn:=3) (j:=4) (it:=.cO (.bin .Add (.slot 2) (.val (.int 1))) (.slot 0)) (e:=.tup [(.slot 2),(.slot 4)]) (List.range (m - (a+1))) (λ(j:Nat)=>.int ((a:Int)+1+(j:Int))) (λ(j:Nat)=>.tup [.int (a:Int),.int ((a:Int)+1+(j:Int))]) (by
     have e:((m:Int) - ((a:Int)+1)).toNat=m - (a+1):=by lia
     simp! [U,dg,aD ((a:Int)+1) ⋯,aD m ⋯,e,bU]) rfl ⋯ ⋯ ⋯ (au _ (by simp;lia)) λx hx G' hG=>by
    have h2:G'[2]?=some (.dat (.int a)):=hG.1 2 ⋯;simp! [U,hG.2,h2,au 2 ⋯]
   have e3:(List.range (m - (a+1))).map (λ(j:Nat)=>D.tup [.int (a:Int),.int ((a:Int)+1+(j:Int))])=(mH m a).map λx=>~~~x:=by unfold mH;rw[List.map_map];rfl
   rw[e3]at w;have z:(pacc m a).length+(mH m a).length<=lim:=au _ ⋯;refine⟨[.dat (.int m),.own ((pacc m a).map λx=>~~~x),.dat (.int a)],[.dat (.int m),.own ((pacc m (a+1)).map λx=>~~~x),.dat (.int a)],rfl,?_,a+1,_,by lia,rfl,rfl⟩
   rw[sH,n4];simp! [U,w,z])
 obtain⟨g',⟨j,s2,h0,h1,rfl⟩,h2⟩:=loop (List.range' 0 m) [.dat (.int m),.own [],.no] ⟨0,.no,by lia,rfl,rfl⟩
 have hj:j=m:=by
  have:(List.range' j (m - j)).length=0:=by rw[<- h1];rfl
  rw[Bz]at this;lia
 subst hj;have hr:bU 0 j=(List.range' 0 j).map λ(x:Nat)=>D.int (x:Int):=by unfold bU;rw[pV];exact kS λx _=>by rw[CA]
 unfold aU gk;simp! [U,Tg.ix,Tg.fL,dg,aD j ⋯,hr,h2];rfl
end
theorem cpS{rn:Rn}{bor:List Nat}{k:Nat}{α:Type}{kk nn j:Nat}{c:Option Ex}(cZ:α->D)(gs:Int->G)(hn:∀s,(gs s).length=nn)(hj1:nn<=j)(hj2:j<nn+kk) :
  ∀(ao:List α) (s:Int) (m:G) (acc:List D),m.length=kk->acc.length+ao.length<=lim->
  (∀a∈ao,∀s m acc,m.length=kk->m[j - nn]?=some (.dat (cZ a))->∃b s',pM rn bor k c (gM (gs s) m acc)=some (b,gM (gs s') m acc))->
  (∀a∈ao,∀s m acc,m.length=kk->m[j - nn]?=some (.dat (cZ a))->eV rn bor k (.slot j) (gM (gs s) m acc)=some (cZ a,gM (gs s) m acc))->
  ∃(sub:List α) (s':Int) (m':G),sub.Sublist ao/\m'.length=kk/\yC rn bor k (.nm j) (nn+kk) c (.slot j) (ao.map cZ) (gM (gs s) m acc)=some (gM (gs s') m' (acc++sub.map cZ))
 | [],s,m,acc,hm,_,_,_=>⟨[],s,m,List.Sublist.refl _,hm,by simp[yC]⟩
 |a::ao,s,m,acc,hm,hl,hc,he=>by
  rw[eI]at hl;have VP:j - nn<m.length:=by lia
  have q1:(Tg.nm j).set (cZ a) (gM (gs s) m acc)=some (gM (gs s) (m.set (j - nn) (.dat (cZ a))) acc):=by
   have:=uB (g:=gs s) (kk:=kk) (j:=j) (d:=cZ a) (m:=m) (acc:=acc) (by rw[hn];exact hj1) (by rw[hn];exact VP)
   rw[hn]at this;exact this
  have hm':(m.set (j - nn) (.dat (cZ a))).length=kk:=by simpa using hm
  have hg:(m.set (j - nn) (.dat (cZ a)))[j - nn]?=some (.dat (cZ a)):=by rw[fR VP]
  obtain⟨b,s',q2⟩:=hc a bP s _ acc hm' hg;rw[List.map_cons];unfold yC;rw[q1];dsimp only;rw[q2];cases b with
  |false=>
   dsimp only;obtain⟨sub,s2,m2,w1,w2,w3⟩:=cpS cZ gs hn hj1 hj2 ao s' _ acc hm' ⋯ (λx hx=>hc x (aS _ hx)) (λx hx=>he x (aS _ hx))
   exact⟨sub,s2,m2,w1.cons a,w2,w3⟩
  |true=>
   dsimp only;rw[he a bP s' _ acc hm' hg];dsimp only;have q4:(gM (gs s') (m.set (j - nn) (.dat (cZ a))) acc)[nn+kk]?=some (.own acc):=by have:=jh (g:=gs s') (m:=m.set (j - nn) (.dat (cZ a))) (acc:=acc);rw[hn,hm']at this;exact this
   rw[q4];dsimp only;rw[eP ⋯];have q5:(gM (gs s') (m.set (j - nn) (.dat (cZ a))) acc).set (nn+kk) (.own (acc++[cZ a]))=gM (gs s') (m.set (j - nn) (.dat (cZ a))) (acc++[cZ a]):=by have:=iL (g:=gs s') (m:=m.set (j - nn) (.dat (cZ a))) (acc:=acc) (acc':=acc++[cZ a]);rw[hn,hm']at this;exact this
   rw[q5];obtain⟨sub,s2,m2,w1,w2,w3⟩:=cpS cZ gs hn hj1 hj2 ao s' _ (acc++[cZ a]) hm' (by rw[dL,l7];lia) (λx hx=>hc x (aS _ hx)) (λx hx=>he x (aS _ hx))
   refine⟨a::sub,s2,m2,w1.cons_cons a,w2,?_⟩;rw[w3];simp
theorem PL{rn:Rn}{bor:List Nat}{k:Nat}{α:Type}{kk nn j:Nat}{it:Ex}{c:Option Ex}{s:Int}{g:G}(ao:List α)(cZ:α->D)(gs:Int->G)(hn:∀s,(gs s).length=nn)(hj1:nn<=j)(hj2:j<nn+kk)(hw:dg rn bor k false it g=some (ao.map cZ,gs s))(hb:j∉bor)(hl:ao.length<=lim)
  (hc:∀a∈ao,∀s m acc,m.length=kk->m[j - nn]?=some (.dat (cZ a))->∃b s',pM rn bor k c (gM (gs s) m acc)=some (b,gM (gs s') m acc))
  (he:∀a∈ao,∀s m acc,m.length=kk->m[j - nn]?=some (.dat (cZ a))->eV rn bor k (.slot j) (gM (gs s) m acc)=some (cZ a,gM (gs s) m acc)) :
  ∃(sub:List α) (s':Int),sub.Sublist ao/\fM rn bor k nn kk (.nm j) it c (.slot j) g=some (sub.map cZ,gs s'):=by
 obtain⟨sub,s',m',w1,w2,w3⟩:=cpS (rn:=rn) (bor:=bor) (k:=k) (c:=c) cZ gs hn hj1 hj2 ao s (List.replicate kk .no) [] ⋯ (by simpa using hl) hc he
 refine⟨sub,s',w1,?_⟩;unfold fM;rw[show (Tg.nm j).fL=false from rfl,hw]
 dsimp only;rw[eP ⟨hn s,by simp[Tg.ix,hb]⟩,HF,w3]
 dsimp only;have:(gM (gs s') m' ([]++sub.map cZ))[nn+kk]?=some (.own ([]++sub.map cZ)):=by have:=jh (g:=gs s') (m:=m') (acc:=[]++sub.map cZ);rw[hn,w2]at this;exact this
 rw[this];dsimp only;have ht:=uz (g:=gs s') (m:=m') (acc:=[]++sub.map cZ);rw[hn]at ht;rw[ht,AE]
section
variable{ti pi mi:Nat}(U:ju fns rn)(hT:fns[ti]?=some cW)(hP:fns[pi]?=some gk)(hM:fns[mi]?=some (nQ ti))
include U
theorem sl9{f:G}{m:G}{acc:List D}{d:D}{j nn:Nat}(hf:f.length=nn)(hj:nn<=j)(hm:m[j - nn]?=some (.dat d)):eV (rn (n+1)) bor k (.slot j) (gM f m acc)=some (d,gM f m acc):=by
 have hlt:=(b0.mp hm).1;have:(gM f m acc)[j]?=some (.dat d):=by
  have:=dY (g:=f) (m:=m) (acc:=acc) (i:=j - nn) hlt;rw[hf,show nn+(j - nn)=j by lia]at this
  rw[this,hm]
 simp! [U,this]
def fr(s:Int)(fl:Bool)(a2 a3 a4 a5 a6 a7:Slot):G:=[St s fl,.dat (.int 6),a2,a3,a4,a5,a6,a7]
include hT in
theorem w1(s:Int)(fl:Bool):∃(m:Nat) (s':Int),(1<=m/\m<=6)/\aR (rn (n+40)) [0] (k+3) (Ux ti) (fr s fl .no .no .no .no .no .no)=some (.nx,fr s' fl (.dat (.int m)) .no .no .no .no .no):=by
 obtain⟨r,s',r1,r2,q⟩:=gW U (n:=n+16) (k:=k+2) (g:=fr s fl .no .no .no .no .no .no) (i:=0) (s:=s) (fl:=fl) (m:=8) rfl ⋯;have q':bO (rn (n+36)) cW (k+2) [.var 0,.dat (.int 8)] [St s fl,.dat (.int 6),.no,.no,.no,.no,.no,.no]=some (.dat (.int r),[St s' fl,.dat (.int 6),.no,.no,.no,.no,.no,.no]):=q;obtain⟨v,hv,h0⟩:∃v:Int,(0<=v/\v<=6)/\L2.fB [D.int 0,.int 4,.int 1,.int 0,.int 2,.int 1,.int 3,.int 6] r=some (.int v):=by
  have:r=0\/r=1\/r=2\/r=3\/r=4\/r=5\/r=6\/r=7:=by lia
  rcases this with rfl |rfl |rfl |rfl |rfl |rfl |rfl |rfl <;> exact⟨_,by decide,rfl⟩
 refine⟨(if 6 - v > 1 then 6 - v else 1).toNat,s',?_,?_⟩
 . split <;> lia
 .
  have e:(((if 6 - v > 1 then 6 - v else 1).toNat:Nat):Int)=if 6 - v > 1 then 6 - v else 1:=by split <;> lia
  rw[e];unfold fr Ux;simp! [U,hT,q',h0,au 8 ⋯]
include hT in
theorem w2(s:Int)(fl:Bool)(a2:Slot):∃(w:Int) (s':Int),(0<=w/\w<7)/\aR (rn (n+40)) [0] (k+3) (.set 3 (.call ti [(.slot 0),(.val (.int 7))])) (fr s fl a2 .no .no .no .no .no)=some (.nx,fr s' fl a2 (.dat (.int w)) .no .no .no .no):=by obtain⟨r,s',r1,r2,q⟩:=gW U (n:=n+19) (k:=k+2) (g:=fr s fl a2 .no .no .no .no .no) (i:=0) (s:=s) (fl:=fl) (m:=7) rfl ⋯;refine⟨r,s',⟨r1,r2⟩,?_⟩;have q':bO (rn (n+39)) cW (k+2) [.var 0,.dat (.int 7)] [St s fl,.dat (.int 6),a2,.no,.no,.no,.no,.no]=some (.dat (.int r),[St s' fl,.dat (.int 6),a2,.no,.no,.no,.no,.no]):=q;unfold fr;simp! [U,hT,q']
include hT hP in
theorem w3(s:Int)(fl:Bool)(m:Nat)(hm:1<=m/\m<=6)(w:Int)(hw:0<=w/\w<7):∃(sub:List (List Int)) (s':Int),sub.Sublist (prs m)/\aR (rn (n+60)) [0] (k+3) (.set 4 (.comp 8 2 (.nm 9) (.call pi [(.slot 2)]) (Nv ti) (.slot 9))) (fr s fl (.dat (.int m)) (.dat (.int w)) .no .no .no .no)=some (.nx,fr s' fl (.dat (.int m)) (.dat (.int w)) (.own (sub.map λx=>~~~x)) .no .no .no):=by
 have YF:=λn k=>qC U (n:=n) (k:=k) m hm
 obtain⟨_,_,aJ⟩:=iV hm;obtain⟨v,hv⟩:∃v:Int,L2.fB [D.int 2,.int 4,.int 6] (w % 3)=some (.int v):=by
  have:w % 3=0\/w % 3=1\/w % 3=2:=by lia
  rcases this with e |e |e <;> rw[e] <;> exact⟨_,rfl⟩
 obtain⟨sub,s',h1,h2⟩:=PL (rn:=rn (n+59)) (bor:=[0]) (k:=k+3) (kk:=2) (nn:=8) (j:=9) (it:=.call pi [(.slot 2)]) (c:=Nv ti) (s:=s) (g:=fr s fl (.dat (.int m)) (.dat (.int w)) .no .no .no .no) (prs m) (λx=>~~~x) (λs=>fr s fl (.dat (.int m)) (.dat (.int w)) .no .no .no .no) (λ_=>rfl) ⋯ ⋯ (by unfold fr;simp! [U,dg,hP,aE (fx:=gk) rfl,YF]) ⋯ (au _ ⋯) (λa _ s mm acc h1 h2=>by
   obtain⟨r,s',r1,r2,q⟩:=gW U (n:=n+37) (k:=k+2) (g:=gM (fr s fl (.dat (.int m)) (.dat (.int w)) .no .no .no .no) mm acc) (i:=0) (s:=s) (fl:=fl) (m:=8) rfl ⋯;have q':bO (rn (n+57)) cW (k+2) [.var 0,.dat (.int 8)] (gM (fr s fl (.dat (.int m)) (.dat (.int w)) .no .no .no .no) mm acc)=some (.dat (.int r),gM (fr s' fl (.dat (.int m)) (.dat (.int w)) .no .no .no .no) mm acc):=q;have g0:∀s,(gM (fr s fl (.dat (.int m)) (.dat (.int w)) .no .no .no .no) mm acc)[0]?=some (St s fl):=λ_=>rfl
   have g3:∀s,(gM (fr s fl (.dat (.int m)) (.dat (.int w)) .no .no .no .no) mm acc)[3]?=some (.dat (.int w)):=λ_=>rfl
   refine⟨decide (r<v),s',?_⟩;simp! [U,Nv,pM,hT,g0,g3,q',ji w 3 ⋯,hv,au 3 ⋯]) (λa _ s mm acc h1 h2=>sl9 U (n:=n+58) (nn:=8) rfl ⋯ h2)
 refine⟨sub,s',h1,?_⟩;simp only[aR,U.e,bx,h2];simp[fr]
end
def Dj(l:List (List Int))(x:List Int):Bool:=(l.map λx=>~~~x).any λd=>cD d (~~~x)
theorem IK(l:List (List Int))(x:List Int):eU .In (~~~x) (.lst (l.map λx=>~~~x))=some (Dj l x):=by
 have h:iH (~~~x) (l.map λx=>~~~x)=true:=by have:=jl l;simp only[iH,gF,dB,jk,c8,b8,true_and];lia
 simp only[eU,bF,h,u7];rfl
theorem IV(a b:Bool):eU .NotEq (.bl a) (.bl b)=some (!(a==b)):=rfl
theorem Ae(a b:Int):jd .sorted [.lst [.int a,.int b]]=some (.new ((bw [a,b]).map .int)):=wG [a,b] ⋯
section
variable{ti pi mi:Nat}(U:ju fns rn)(hT:fns[ti]?=some cW)(hP:fns[pi]?=some gk)(hM:fns[mi]?=some (nQ ti))
include U
include hT hM in
theorem w4(s:Int)(fl:Bool)(m:Nat)(hm:1<=m/\m<=6)(a3 a4:Slot):∃(row:List Int) (s':Int),row.length=m/\aR (rn (n+60)) [0] (k+3) (.set 5 (.call mi [(.slot 0),(.cU (.slot 2))])) (fr s fl (.dat (.int m)) a3 a4 .no .no .no)=some (.nx,fr s' fl (.dat (.int m)) a3 a4 (.own (row.map .int)) .no .no):=by
 have hr:bU 0 m=(nums m).map .int:=iO m;have hl:=iP m;obtain⟨row,s',wK,q⟩:=HY U hT (n:=n+9) (k:=k+1) (g:=fr s fl (.dat (.int m)) a3 a4 .no .no .no) (i:=0) (s:=s) (fl:=fl) (nums m) rfl ⋯;have q':bO (rn (n+59)) (nQ ti) (k+2) [.var 0,.dat (.lst ((nums m).map .int))] [St s fl,.dat (.int 6),.dat (.int m),a3,a4,.no,.no,.no]=some (.new (row.map .int),[St s' fl,.dat (.int 6),.dat (.int m),a3,a4,.no,.no,.no]):=q;refine⟨row,s',by rw[wK.length_eq,hl],?_⟩
 unfold fr;simp! [U,hM,q',aD m ⋯,au m ⋯,hr]
theorem w5(s:Int)(fl:Bool)(m:Nat)(hm:1<=m/\m<=6)(w:Int)(hw:3<=w/\w<7)(row:List Int)(wK:row.length=m)(a6 a7:Slot):∃(aj:List (List Int)) (a6':Slot),aj.length<=m/\aR (rn (n+60)) [0] (k+3) (.loop (.nm 6) (.cO (.val (.int 1)) (.slot 2)) Nx) (fr s fl (.dat (.int m)) (.dat (.int w)) (.own []) (.own (row.map .int)) a6 a7)=some (.nx,fr s fl (.dat (.int m)) (.dat (.int w)) (.own (aj.map λx=>~~~x)) (.own (row.map .int)) a6' a7):=by
 have loop:=cB (T:=.nm 6) (b:=(rn (n+60)).b [0] (k+3) Nx) (λ(j:Nat)=>D.int (1+(j:Int)))
  (I:=λl g=>∃(j:Nat) (aj:List (List Int)) (s6:Slot),j<m/\l=List.range' j (m - 1 - j)/\aj.length<=j/\g=fr s fl (.dat (.int m)) (.dat (.int w)) (.own (aj.map λx=>~~~x)) (.own (row.map .int)) s6 a7)
  (step:=λa l g h=>by
   obtain⟨j,aj,s6,h0,h1,h2,rfl⟩:=h;have VP:j<m - 1:=by
    rcases sB j (m - 1)with h |h
    . exact h
    . rw[AJ h]at h1;cases h1
   have hc:List.range' j (m - 1 - j)=j::List.range' (j+1) (m - 1 - (j+1)):=by rw[show m - 1 - j=(m - 1 - (j+1))+1 by lia,xI]
   rw[hc]at h1;injection h1 with e1 e2;subst e1 e2;obtain⟨z,hz⟩:∃z:Int,z=1+(a:Int):=⟨_,rfl⟩;rw[<- hz];obtain⟨v,hv,h3⟩:∃v:Int,(0<=v/\v<m)/\L2.fB [D.int (z - 1),.int (z - 1),.int 0,.int (z / 2)] (w - 3)=some (.int v):=by
    have:w=3\/w=4\/w=5\/w=6:=by lia
    rcases this with rfl |rfl |rfl |rfl
    . exact⟨z - 1,by lia,rfl⟩
    . exact⟨z - 1,by lia,rfl⟩
    . exact⟨0,by lia,rfl⟩
    . exact⟨z / 2,by lia,rfl⟩
   have a1:L2.fB (row.map D.int) z=some (.int (gt row z)):=dZ ⋯;have a2:L2.fB (row.map D.int) v=some (.int (gt row v)):=dZ ⋯;have z2:aj.length<lim:=fI (l5 _) (au (aj.length+1) ⋯);refine⟨fr s fl (.dat (.int m)) (.dat (.int w)) (.own (aj.map λx=>~~~x)) (.own (row.map .int)) (.dat (.int z)) a7,fr s fl (.dat (.int m)) (.dat (.int w)) (.own ((aj++[bw [gt row z,gt row v]]).map λx=>~~~x)) (.own (row.map .int)) (.dat (.int z)) a7,rfl,?_,a+1,_,_,by lia,rfl,by rw[dL,l7];lia,rfl⟩
   rw[n4];unfold fr Nx;simp! [U,a1,a2,h3,gU _ _ (show (0:Int)<2/\(2:Int)<1073741824 by decide),Ae,z2,au 4 ⋯,au 2 ⋯]
   rfl)
 obtain⟨g',⟨j,aj,s6,h0,h1,h2,rfl⟩,h3⟩:=loop (List.range' 0 (m - 1)) (fr s fl (.dat (.int m)) (.dat (.int w)) (.own []) (.own (row.map .int)) a6 a7) ⟨0,[],a6,by lia,rfl,by simp,rfl⟩
 have hr:bU 1 (m - 1)=(List.range' 0 (m - 1)).map λ(x:Nat)=>D.int (1+(x:Int)):=by unfold bU;rw[pV]
 refine⟨aj,s6,by lia,?_⟩
 have e:((m:Int) - 1).toNat=m - 1:=by lia
 unfold fr at h3 ⊢
 simp! [U,Tg.ix,Tg.fL,dg,aD 1 ⋯,aD m ⋯,e,hr,h3]
theorem w6(s:Int)(fl:Bool)(m:Nat)(hm:1<=m/\m<=6)(w:Int)(row:List Int)(wK:row.length=m)(aj:List (List Int))(ht:aj.length<=m)(a6 a7:Slot):∃(aC:List (List Int)),aR (rn (n+60)) [0] (k+3) Iz (fr s fl (.dat (.int m)) (.dat (.int w)) (.own (aj.map λx=>~~~x)) (.own (row.map .int)) a6 a7)=some (.nx,fr s fl (.dat (.int m)) (.dat (.int w)) (.own (aC.map λx=>~~~x)) (.own (row.map .int)) a6 a7):=by
 by_cases h4:w=4
 .
  by_cases h5:(m:Int) > 2
  . have a1:L2.fB (row.map D.int) 0=some (.int (gt row 0)):=dZ ⋯;have a2:L2.fB (row.map D.int) ((m:Int) - 1)=some (.int (gt row ((m:Int) - 1))):=dZ ⋯;have z2:aj.length<lim:=fI (l5 _) (au (aj.length+1) ⋯);have h6:(2:Int)<m:=h5;refine⟨aj++[bw [gt row 0,gt row ((m:Int) - 1)]],?_⟩;rw[n4];unfold fr Iz;subst h4;simp! [U,a1,a2,h5,h6,Ae,z2,au 2 ⋯];rfl
  . have h6 : ¬ (2:Int)<m:=h5;refine⟨aj,?_⟩;unfold fr Iz;subst h4;simp! [U,h5,h6]
 . refine⟨aj,?_⟩;unfold fr Iz;simp! [U,h4]
include hT hP in
theorem w7(s:Int)(fl:Bool)(m:Nat)(hm:1<=m/\m<=6)(a3 a4 a5 a6:Slot):∃(sub:List (List Int)) (s':Int),aR (rn (n+60)) [0] (k+3) (.set 7 (.comp 8 2 (.nm 9) (.call pi [(.slot 2)]) (Ny ti) (.slot 9))) (fr s fl (.dat (.int m)) a3 a4 a5 a6 .no)=some (.nx,fr s' fl (.dat (.int m)) a3 a4 a5 a6 (.own (sub.map λx=>~~~x))):=by
 have YF:=λn k=>qC U (n:=n) (k:=k) m hm
 obtain⟨_,_,aJ⟩:=iV hm;obtain⟨sub,s',h1,h2⟩:=PL (rn:=rn (n+59)) (bor:=[0]) (k:=k+3) (kk:=2) (nn:=8) (j:=9) (it:=.call pi [(.slot 2)]) (c:=Ny ti) (s:=s) (g:=fr s fl (.dat (.int m)) a3 a4 a5 a6 .no) (prs m) (λx=>~~~x) (λs=>fr s fl (.dat (.int m)) a3 a4 a5 a6 .no) (λ_=>rfl) ⋯ ⋯ (by unfold fr;simp! [U,dg,hP,aE (fx:=gk) rfl,YF]) ⋯ (au _ ⋯) (λa _ s mm acc h1 h2=>by
   obtain⟨r,s',r1,r2,q⟩:=gW U (n:=n+37) (k:=k+2) (g:=gM (fr s fl (.dat (.int m)) a3 a4 a5 a6 .no) mm acc) (i:=0) (s:=s) (fl:=fl) (m:=12) rfl ⋯;have q':bO (rn (n+57)) cW (k+2) [.var 0,.dat (.int 12)] (gM (fr s fl (.dat (.int m)) a3 a4 a5 a6 .no) mm acc)=some (.dat (.int r),gM (fr s' fl (.dat (.int m)) a3 a4 a5 a6 .no) mm acc):=q;have g0:∀s,(gM (fr s fl (.dat (.int m)) a3 a4 a5 a6 .no) mm acc)[0]?=some (St s fl):=λ_=>rfl
   refine⟨decide (r=0),s',?_⟩;simp! [U,Ny,pM,hT,g0,q']) (λa _ s mm acc h1 h2=>sl9 U (n:=n+58) (nn:=8) rfl ⋯ h2)
 refine⟨sub,s',?_⟩;simp only[aR,U.e,bx,h2];simp[fr]
include hP in
theorem w8(s:Int)(fl:Bool)(m:Nat)(hm:1<=m/\m<=6)(aj odd:List (List Int))(a3 a5 a6:Slot):∃(sub:List (List Int)),sub.Sublist (prs m)/\aR (rn (n+60)) [0] (k+3) (.set 4 (.comp 8 2 (.nm 9) (.call pi [(.slot 2)]) Nz (.slot 9))) (fr s fl (.dat (.int m)) a3 (.own (aj.map λx=>~~~x)) a5 a6 (.own (odd.map λx=>~~~x)))=some (.nx,fr s fl (.dat (.int m)) a3 (.own (sub.map λx=>~~~x)) a5 a6 (.own (odd.map λx=>~~~x))):=by
 have YF:=λn k=>qC U (n:=n) (k:=k) m hm
 obtain⟨_,_,aJ⟩:=iV hm;have w:=wF (rn:=rn (n+59)) (bor:=[0]) (k:=k+3) (g:=fr s fl (.dat (.int m)) a3 (.own (aj.map λx=>~~~x)) a5 a6 (.own (odd.map λx=>~~~x))) (g1:=fr s fl (.dat (.int m)) a3 (.own (aj.map λx=>~~~x)) a5 a6 (.own (odd.map λx=>~~~x))) (kk:=2) (nn:=8) (j:=9) (it:=.call pi [(.slot 2)]) (c:=Nz) (e:=.slot 9) (prs m) (λx=>~~~x) (λx=>!(Dj aj x==Dj odd x)) (λx=>~~~x) (by unfold fr;simp! [U,dg,hP,aE (fx:=gk) rfl,YF]) rfl (by simp[fr]) (by simp[fr]) ⋯ (au _ ⋯)
  (λa _ G' hG=>by
   have h4:G'[4]?=some (.own (aj.map λx=>~~~x)):=hG.1 4 (by simp[fr])
   have h7:G'[7]?=some (.own (odd.map λx=>~~~x)):=hG.1 7 (by simp[fr])
   simp! [U,Nz,pM,hG.2,h4,h7,IK,IV])
  (λa _ _ G' hG=>by simp! [U,hG.2])
 refine⟨(prs m).filter λx=>!(Dj aj x==Dj odd x),List.filter_sublist,?_⟩
 simp only[aR,U.e,bx,w];simp[fr]
end
section
variable{ti pi mi:Nat}(U:ju fns rn)(hT:fns[ti]?=some cW)(hP:fns[pi]?=some gk)(hM:fns[mi]?=some (nQ ti))
include U
include hT hP in
theorem w9(s:Int)(fl:Bool)(m:Nat)(hm:1<=m/\m<=6)(w:Int)(hw:0<=w/\w<7)(row:List Int)(wK:row.length=m)(uI:List (List Int))(hs:uI.Sublist (prs m)):∃(sub:List (List Int)) (s':Int) (a6 a7:Slot),sub.Sublist (prs m)/\aR (rn (n+62)) [0] (k+3) (NB ti pi) (fr s fl (.dat (.int m)) (.dat (.int w)) (.own (uI.map λx=>~~~x)) (.own (row.map .int)) .no .no)=some (.nx,fr s' fl (.dat (.int m)) (.dat (.int w)) (.own (sub.map λx=>~~~x)) (.own (row.map .int)) a6 a7):=by
 by_cases Zu:w > 2
 .
  obtain⟨t1,a6,h1,q1⟩:=w5 U (n:=n+1) (k:=k) s fl m hm w ⋯ row wK .no .no;obtain⟨t2,q2⟩:=w6 U (n:=n+1) (k:=k) s fl m hm w row wK t1 h1 a6 .no;obtain⟨odd,s',q3⟩:=w7 U hT hP (n:=n+1) (k:=k) s fl m hm (.dat (.int w)) (.own (t2.map λx=>~~~x)) (.own (row.map .int)) a6
  obtain⟨sub,h4,q4⟩:=w8 U hP (n:=n+1) (k:=k) s' fl m hm t2 odd (.dat (.int w)) (.own (row.map .int)) a6;refine⟨sub,s',a6,.own (odd.map λx=>~~~x),h4,?_⟩
  have ht:(rn (n+62)).t [0] (k+3) (.cmp .Gt (.slot 3) (.val (.int 2))) (fr s fl (.dat (.int m)) (.dat (.int w)) (.own (uI.map λx=>~~~x)) (.own (row.map .int)) .no .no)=some (true,fr s fl (.dat (.int m)) (.dat (.int w)) (.own (uI.map λx=>~~~x)) (.own (row.map .int)) .no .no):=by unfold fr;simp! [U,Zu]
  have q0:aR (rn (n+61)) [0] (k+3) (.set 4 (.lst [])) (fr s fl (.dat (.int m)) (.dat (.int w)) (.own (uI.map λx=>~~~x)) (.own (row.map .int)) .no .no)=some (.nx,fr s fl (.dat (.int m)) (.dat (.int w)) (.own []) (.own (row.map .int)) .no .no):=by unfold fr;simp! [U,U.e]
  unfold NB;rw[aR];rw[ht];dsimp only;rw[U.b];rw[aL q0,aL q1,aL q2,aL q3,aL q4];rfl
 . refine⟨uI,s,.no,.no,hs,?_⟩;unfold fr NB;simp! [U,Zu]
include hT hP hM in
theorem Uz{i:Nat}{s:Int}{fl:Bool}(hi:g[i]?=some (St s fl)):∃(m:Nat) (aj:List (List Int)) (s':Int),(1<=m/\m<=6)/\Wb m aj/\bO (rn (n+80)) (Di ti pi mi) (k+3) [.var i,.dat (.int 6)] g=some (.dat (W m aj),g.set i (St s' fl)):=by
 obtain⟨m,s1,hm,q1⟩:=w1 U hT (n:=n+39) (k:=k) s fl;obtain⟨w,s2,hw,q2⟩:=w2 U hT (n:=n+39) (k:=k) s1 fl (.dat (.int m));obtain⟨uI,s3,h3,q3⟩:=w3 U hT hP (n:=n+19) (k:=k) s2 fl m hm w hw;obtain⟨row,s4,h4,q4⟩:=w4 U hT hM (n:=n+19) (k:=k) s3 fl m hm (.dat (.int w)) (.own (uI.map λx=>~~~x))
 obtain⟨sub,s5,a6,a7,h5,q5⟩:=w9 U hT hP (n:=n+17) (k:=k) s4 fl m hm w hw row h4 uI h3;obtain⟨p1,p2,p3⟩:=iV hm;have hso:=iN sub (λx hx=>by obtain⟨a,b,rfl,_⟩:=p1 x (h5.subset hx);exact List.cons_ne_nil _ _) (Nat.lt_of_le_of_lt (hV h5.length_le p3) ⋯)
 refine⟨m,bV cT sub,s5,hm,Wb.Uy hm h5,?_⟩;have hp:fZ (Di ti pi mi).n [St s fl,.dat (.int 6)]=fr s fl .no .no .no .no .no .no:=rfl;have body:(rn (n+80)).b [0] (k+3) (Di ti pi mi).body (fr s fl .no .no .no .no .no .no)=some (.rt (.dat (W m (bV cT sub))),fr s5 fl (.dat (.int m)) (.dat (.int w)) (.own (sub.map λx=>~~~x)) (.own (row.map .int)) a6 a7):=by unfold Di;rw[U.b,aL q1,aL q2,aL q3,aL q4,aL q5];unfold fr;simp! [U,hso,au 2 ⋯];rfl
 unfold bO;simp only[vars,eG,hi,List.map_cons,List.map_nil];rw[eP ⟨rfl,by simp⟩,hp,body]
 rfl
end
def dN(m:Nat)(aj:List (List Int)):List (List Int):=(prs m).filter λx=>!Dj aj x
theorem NK{m:Nat}(hm:1<=m/\m<=6):(prs m).Pairwise λx y=>HT.lexLt x y=true:=by
 obtain⟨h1,h2⟩:=hm
 match m,h1,h2 with
 | 1,_,_=>decide +kernel
 | 2,_,_=>decide +kernel
 | 3,_,_=>decide +kernel
 | 4,_,_=>decide +kernel
 | 5,_,_=>decide +kernel
 | 6,_,_=>decide +kernel
theorem qD{m:Nat}(hm:1<=m/\m<=6)(aj:List (List Int)):Wb m (dN m aj):=by obtain⟨h1,_,h3⟩:=iV hm;have s:(dN m aj).Sublist (prs m):=List.filter_sublist;exact⟨λx hx=>h1 x (s.subset hx),(NK hm).sublist s,hV s.length_le h3⟩
theorem Dk(l:List (List Int))(x:List Int):eU .NotIn (~~~x) (.tup (l.map λx=>~~~x))=some (!Dj l x):=by
 have h:iH (~~~x) (l.map λx=>~~~x)=true:=by have:=jl l;simp only[iH,gF,dB,jk,c8,b8,true_and];lia
 simp only[eU,bF,h,u7];rfl
noncomputable def Dl:Fx:=⟨2,2,[(.ret (.ite (.cmp .Lt (.slot 0) (.slot 1)) (.tup [(.slot 0),(.slot 1)]) (.tup [(.slot 1),(.slot 0)])))]⟩
def Dm(pa al ti:Nat):Fx:=⟨1,2,[(.set 1 (.call pa [(.blt .len [(.slot 0)])])),(.ret (.call al [(.iF 2 3 (.tp [3,4]) (.slot 1) [(.slot 3),(.slot 4)] (.call ti [(.ix (.slot 0) (.slot 3)),(.ix (.slot 0) (.slot 4))])),(.slot 1)]))]⟩
def gJ(l:List (List Int)):List Int:=l.getLastD []
theorem mJ{l:List (List Int)}(h:l≠[]):gJ l∈l:=by unfold gJ;rw[List.getLastD_eq_getLast?,List.getLast?_eq_some_getLast h];exact List.getLast_mem h
theorem sI(l:List (List Int))(h:l≠[]):L2.fB (l.map λx=>~~~x) (-1)=some (~~~(gJ l)):=by
 obtain⟨a,x,rfl⟩:∃a x,l=a++[x]:=⟨l.dropLast,l.getLast h,(List.dropLast_concat_getLast h).symm⟩;unfold L2.fB L2.nR gJ;have hz:(List.map (λx=>~~~x) (a++[x])).length=a.length+1:=by simp
 rw[hz,eQ ⋯,eP ⋯,show (-1+((a.length+1:Nat):Int)).toNat=a.length by lia]
 simp
noncomputable def DX(nx:List Int->List Int)(s:List Int):Nat->List (List Int)->Option (List (List Int))
 | 0,acc=>if nx (gJ acc)=s then some acc else none
 |f+1,acc=>if nx (gJ acc)=s then some acc else DX nx s f (acc++[nx (gJ acc)])
def mK(nx:List Int->List Int)(s:List Int):List (List Int):=(DX nx s 40 [s]).getD []
def yW(r:List (List Int)):Bool:=match r with
 | []=>false
 |n::l=>decide (n=nO n l)
def IW(nx:List Int->List Int)(ps:List (List Int)):List (List (List Int)):=(ps.map (mK nx)).filter yW
def jv(u:List Int)(p:List Int):List Int:=match p with
 | [a,b]=>if gt u a<gt u b then [gt u a,gt u b]else [gt u b,gt u a]
 |_=>[]
def wY(nx:List Int->List Int)(ps:List (List Int)):Bool:=ps.all λp=>decide (nx p∈ps)&&(match DX nx p 40 [p]with |some r=>!r.isEmpty&&decide (r.length<=41) |none=>false)&&!p.isEmpty
theorem Af{nx:List Int->List Int}{ps:List (List Int)}(hc:∀p∈ps,nx p∈ps){s:List Int}{r:List (List Int)}:∀(f:Nat) (acc:List (List Int)),acc≠[]->(∀x∈acc,x∈ps)->DX nx s f acc=some r->∀x∈r,x∈ps
 | 0,acc,_,h,e=>by
  unfold DX at e;split at e
  . cases e;exact h
  . cases e
 |f+1,acc,ha,h,e=>by
  unfold DX at e;split at e
  . cases e;exact h
  . exact Af hc f _ ⋯ (λx hx=>(AC.mp hx).elim (h x) λz=>by rw[i6.mp z];exact hc _ (h _ (mJ ha))) e
theorem Ag(f:List Int->D):∀{ps:List (List Int)}{p:List Int},p∈ps->Ph ps (ps.map f) p=some (f p)
 |q::ps,p,h=>by
  unfold Ph;rw[List.map_cons];by_cases e:q=p
  . simp[e]
  . simp only[e,Co];exact Ag f ((dS.mp h).resolve_left λz=>e z.symm)
theorem NP(n:List Int)(l:List (List Int))(h:∀x∈n::l,x≠[]):jd .min [.tup ((n::l).map λx=>~~~x)]=some (.dat (~~~(nO n l))):=by have e:=qh (n::l) h;have e2:=se n l;simp only[jd,DR,bF,e2,e]
section
variable{k n:Nat}{g g1:G}{rn:Nat->Rn}{fns:List Fx}{pa al ti rf:Nat}(U:ju fns rn)
include U
theorem NQ(L:D)(nx:List Int->List Int)(ps:List (List Int))(hix:∀p∈ps,n6 L (~~~p)=some (~~~(nx p)))(hcl:∀p∈ps,nx p∈ps)(s:List Int)(r:List (List Int)):∀(f N:Nat) (acc:List (List Int)),f<N->acc≠[]->(∀x∈acc,x∈ps)->acc.length+f<=100->DX nx s f acc=some r->
  DT ((rn (n+12)).t [] k (.cmp .NotEq (.ix (.slot 0) (.ix (.slot 2) (.neg (.val (.int 1))))) (.slot 1))) ((rn (n+12)).b [] k [(.expr (.append 2 (.ix (.slot 0) (.ix (.slot 2) (.neg (.val (.int 1)))))))]) N [.dat L,.dat (~~~s),.own (acc.map λx=>~~~x)]=some (.nx,[.dat L,.dat (~~~s),.own (r.map λx=>~~~x)]):=by
 have test:∀acc:List (List Int),acc≠[]->(∀x∈acc,x∈ps)->(rn (n+12)).t [] k (.cmp .NotEq (.ix (.slot 0) (.ix (.slot 2) (.neg (.val (.int 1))))) (.slot 1)) [.dat L,.dat (~~~s),.own (acc.map λx=>~~~x)]=some (!decide (nx (gJ acc)=s),[.dat L,.dat (~~~s),.own (acc.map λx=>~~~x)]):=λacc h1 h2=>by
  have hx:=hix (gJ acc) (h2 _ (mJ h1));simp! [U,sI acc h1,hx]
 intro f
 induction f with
 |zero=>
  intro N acc hN h1 h2 h3 hr;obtain⟨N,rfl⟩:∃N',N=N'+1:=⟨N - 1,by lia⟩
  unfold DX at hr;split at hr
  . rename_i e;cases hr;unfold DT;rw[test _ h1 h2];simp[e]
  . cases hr
 |succ f ih=>
  intro N acc hN h1 h2 h3 hr;obtain⟨N,rfl⟩:∃N',N=N'+1:=⟨N - 1,by lia⟩
  unfold DX at hr;have hx:=h2 (gJ acc) (mJ h1);split at hr
  . rename_i e;cases hr;unfold DT;rw[test _ h1 h2];simp[e]
  .
   rename_i e;unfold DT;rw[test acc h1 h2];simp only[e,decide_false,Bool.not_false];have hb:(rn (n+12)).b [] k [(.expr (.append 2 (.ix (.slot 0) (.ix (.slot 2) (.neg (.val (.int 1)))))))] [.dat L,.dat (~~~s),.own (acc.map λx=>~~~x)]=some (.nx,[.dat L,.dat (~~~s),.own ((acc++[nx (gJ acc)]).map λx=>~~~x)]):=by have hlt:acc.length<lim:=fI (l5 _) (au (acc.length+1) ⋯);simp! [U,sI acc h1,hix (gJ acc) hx,hlt];simp
   rw[hb];dsimp only;refine ih N (acc++[nx (gJ acc)]) ⋯ ⋯ (λx hx'=>?_) (by rw[dL,l7];lia) hr
   rcases AC.mp hx' with hx' |hx'
   . exact h2 x hx'
   . cases i6.mp hx';exact hcl _ hx
theorem Dn(L:D)(nx:List Int->List Int)(ps:List (List Int))(hix:∀p∈ps,n6 L (~~~p)=some (~~~(nx p)))(hcl:∀p∈ps,nx p∈ps)(s:List Int)(hs:s∈ps)(r:List (List Int))(hr:DX nx s 40 [s]=some r):aU (rn (n+20)) k jU [L,~~~s]=some (.dat (.tup (r.map λx=>~~~x))):=by
 have w:=λn k=>NQ U (n:=n) (k:=k) L nx ps hix hcl s r 40 100000 [s] ⋯ ⋯ (by simpa using hs) ⋯ hr
 have e:List.map (λx=>~~~x) [s]=[~~~s]:=rfl
 simp only[e]at w;unfold aU jU;simp! [U,w,au 1 ⋯]
omit U in
theorem kW{nx:List Int->List Int}{ps:List (List Int)}(h:wY nx ps=true){p:List Int}(hp:p∈ps):nx p∈ps/\DX nx p 40 [p]=some (mK nx p)/\mK nx p≠[]/\(∀x∈mK nx p,x∈ps)/\(mK nx p).length<=41/\p≠[]:=by
 have:=eJ.mp h p hp;simp only[c8,b8]at this;obtain⟨⟨h1,h2⟩,h3⟩:=this;unfold mK;cases e:DX nx p 40 [p]with
 |none=>rw[e]at h2;cases h2
 |some r=>
  rw[e]at h2;simp only[c8,b8]at h2;obtain⟨h4,h6⟩:=h2;have hc:∀q∈ps,nx q∈ps:=λq hq=>by
   have:=eJ.mp h q hq;simp only[c8,b8]at this;exact this.1.1
  have h5:∀x∈r,x∈ps:=Af hc 40 [p] ⋯ (by simpa using hp) e
  exact⟨h1,rfl,λz=>(by rw[show r=[]from z]at h4;cases h4),h5,h6,λz=>(by rw[z]at h3;cases h3)⟩
variable(hR:fns[rf]?=some jU)
include hR
theorem Dp(L:D)(nx:List Int->List Int)(ps:List (List Int))(hix:∀p∈ps,n6 L (~~~p)=some (~~~(nx p)))(hg:wY nx ps=true)(hl:ps.length<=100):aU (rn (n+40)) (k+1) (jV rf) [L,.lst (ps.map λx=>~~~x)]=some (.new ((IW nx ps).map λr=>.tup (r.map λx=>~~~x))):=by
 have hcl:∀p∈ps,nx p∈ps:=λp hp=>(kW hg hp).1
 have w1:=λn k=>gI (rn:=rn (n+30)) (bor:=[]) (k:=k+1) (g:=[.dat L,.dat (.lst (ps.map λx=>~~~x)),.no]) (g1:=[.dat L,.dat (.lst (ps.map λx=>~~~x)),.no]) (kk:=2) (nn:=3) (j:=4) (it:=.slot 1) (e:=.call rf [(.slot 0),(.slot 4)]) ps (λx=>~~~x) (λs=>D.tup ((mK nx s).map λx=>~~~x)) (by simp! [U,dg]) rfl ⋯ ⋯ ⋯ (au _ ⋯) λs hs G' hG=>by
  have h0:G'[0]?=some (.dat L):=hG.1 0 ⋯;simp! [U,hG.2,h0,hR,aM (fx:=jU) rfl,Dn U L nx ps hix hcl s hs _ (kW hg hs).2.1]
 have w2:=λn k=>wF (rn:=rn (n+30)) (bor:=[]) (k:=k+1) (g:=[.dat L,.dat (.lst (ps.map λx=>~~~x)),.own ((ps.map (mK nx)).map λr=>.tup (r.map λx=>~~~x))]) (g1:=[.dat L,.dat (.lst (ps.map λx=>~~~x)),.dat (.lst ((ps.map (mK nx)).map λr=>.tup (r.map λx=>~~~x)))]) (kk:=2) (nn:=3) (j:=4) (it:=.slot 2) (c:=some (.cmp .Eq (.ix (.slot 4) (.val (.int 0))) (.blt .min [(.slot 4)]))) (e:=.slot 4) (ps.map (mK nx)) (λr=>D.tup (r.map λx=>~~~x)) yW (λr=>D.tup (r.map λx=>~~~x)) (by simp! [U,dg]) rfl ⋯ ⋯ ⋯ (au _ (by rw[dC];lia)) (λr hr G' hG=>by
   obtain⟨s,hs,rfl⟩:=fA.mp hr;obtain⟨_,_,q2,q3,_,_⟩:=kW hg hs;cases e:mK nx s with
   |nil=>exact absurd e q2
   |cons a l=>
    have h4:=hG.2;rw[e]at h4;have ha:L2.fB ((a::l).map λx=>~~~x) 0=some (~~~a):=by simp[L2.fB,L2.nR]
    have hm:=NP a l (λx hx=>(kW hg (q3 x (e▸hx))).2.2.2.2.2)
    simp! [U,pM,h4,ha,hm,yW]) (λr hr _ G' hG=>by simp! [U,hG.2])
 have e1:ps.map (λs=>D.tup ((mK nx s).map λx=>~~~x))=(ps.map (mK nx)).map λr=>.tup (r.map λx=>~~~x):=by rw[List.map_map];rfl
 unfold aU jV;simp! [U,w1,e1,w2];rfl
omit hR
theorem NR(x y:Int):aU (rn (n+8)) k Dl [.int x,.int y]=some (.dat (~~~(if x<y then [x,y]else [y,x]))):=by
 unfold aU Dl;by_cases h:x<y
 . simp! [U,h,au 2 ⋯];rfl
 . simp! [U,h,au 2 ⋯];rfl
variable(hT:fns[ti]?=some Dl)
include hT
theorem sJ(m:Nat)(u:List Int)(hu:u.length=m)(xD:List (List Int))(hp:∀p∈xD,∃a b:Int,p=[a,b]/\0<=a/\a<m/\0<=b/\b<m):∀(ps ka:List (List Int)) (a2 a3 a4 a5:Slot),(∀p∈ps,p∈xD)->(ka++ps).Nodup->(ka++ps).length<=100->jM [a2,a5]=true->∃b3 b4:Slot,
  S2 (rn (n+20)) [] (k+1) (.tp [3,4]) [(.slot 3),(.slot 4)] (.call ti [(.ix (.slot 0) (.slot 3)),(.ix (.slot 0) (.slot 4))]) (ps.map λx=>~~~x) ka (ka.map λp=>~~~(jv u p)) [.dat (~~~u),.dat (.lst (xD.map λx=>~~~x)),a2,a3,a4,a5]=some ((ka++ps,(ka++ps).map λp=>~~~(jv u p)),[.dat (~~~u),.dat (.lst (xD.map λx=>~~~x)),a2,b3,b4,a5])
 | [],ka,a2,a3,a4,a5,_,_,_,_=>⟨a3,a4,by rw[o4];rfl⟩
 |p::ps,ka,a2,a3,a4,a5,h1,h2,h3,h4=>by
  obtain⟨a,b,e,ha,ha2,hb,hb2⟩:=hp p (h1 p bP);subst e;have h2':((ka++[[a,b]])++ps).Nodup:=by rw[v3];exact h2
  obtain⟨b3,b4,ih⟩:=sJ m u hu xD hp ps (ka++[[a,b]]) a2 (.dat (.int a)) (.dat (.int b)) a5 (λp hp=>h1 p (aS _ hp)) h2' (by rw[v3];exact h3) h4
  refine⟨b3,b4,?_⟩;have hn:(ka.all λk=>!decide (k=[a,b]))=true:=by rw[eJ];intro x hx;rw[v4]at h2;have:=h2.2.2 x hx [a,b] bP;simp[this]
  have hlk:ka.length<lim:=fI (l5 _) (au (ka.length+1) (by rw[dL]at h3;lia))
  have nl:∀l:List Int,gi (l.map D.int)=true:=λl=>by induction l with |nil=>rfl |cons x l ih=>rw[List.map_cons];exact ih
  have nl2:gi (xD.map λx=>~~~x)=true:=by
   clear h1 h2 h3 hp ih h2'
   induction xD with
   |nil=>rfl
   |cons x l ih=>rw[List.map_cons];show (iE (~~~x)&&gi _)=true;rw[ih];simp[iE,nl]
  have ng:jM [.dat (~~~u),.dat (.lst (xD.map λx=>~~~x)),a2,.dat (.int a),.dat (.int b),a5]=true:=by
   have h5:jM [a2]=true/\jM [a5]=true:=by cases a2 <;> cases a5 <;> simp_all [jM]
   cases a2 <;> cases a5 <;> simp_all [jM,iE]
  have x1:(rn (n+20)).e [] (k+1) (.call ti [(.ix (.slot 0) (.slot 3)),(.ix (.slot 0) (.slot 4))]) [.dat (~~~u),.dat (.lst (xD.map λx=>~~~x)),a2,.dat (.int a),.dat (.int b),a5]=some (.dat (~~~(jv u [a,b])),[.dat (~~~u),.dat (.lst (xD.map λx=>~~~x)),a2,.dat (.int a),.dat (.int b),a5]):=by have t1:=NR U (n:=n+11) (k:=k) (gt u a) (gt u b);simp! [U,dZ (t:=u) (i:=a) ⋯,dZ (t:=u) (i:=b) ⋯,hT,aM (fx:=Dl) rfl,t1,jv]
  have nx:iE (~~~(jv u [a,b]))=true:=by simp[iE,nl]
  have st:Tg.set (.tp [3,4]) (~~~[a,b]) [.dat (~~~u),.dat (.lst (xD.map λx=>~~~x)),a2,a3,a4,a5]=some [.dat (~~~u),.dat (.lst (xD.map λx=>~~~x)),a2,.dat (.int a),.dat (.int b),a5]:=rfl
  have ar:nk (rn (n+20)) [] (k+1) [(.slot 3),(.slot 4)] [.dat (~~~u),.dat (.lst (xD.map λx=>~~~x)),a2,.dat (.int a),.dat (.int b),a5]=some ([.int a,.int b],[.dat (~~~u),.dat (.lst (xD.map λx=>~~~x)),a2,.dat (.int a),.dat (.int b),a5]):=by simp! [U,U.e]
  have ii:aP [.int a,.int b]=some [a,b]:=rfl;have evd:eV (rn (n+20)) [] (k+1) (.call ti [(.ix (.slot 0) (.slot 3)),(.ix (.slot 0) (.slot 4))]) [.dat (~~~u),.dat (.lst (xD.map λx=>~~~x)),a2,.dat (.int a),.dat (.int b),a5]=some (~~~(jv u [a,b]),[.dat (~~~u),.dat (.lst (xD.map λx=>~~~x)),a2,.dat (.int a),.dat (.int b),a5]):=by unfold eV;rw[x1];rfl
  rw[List.map_cons];unfold S2;rw[st];dsimp only;rw[ar];dsimp only;rw[ii];dsimp only;rw[evd];dsimp only;rw[eP ⟨by rw[hn,ng,nx];rfl,hlk,au 2 ⋯⟩]
  rw[n4]at ih;rw[v3]at ih;exact ih
variable(hA:fns[al]?=some (jV rf)){ZS:Fx}(hP:fns[pa]?=some ZS)
include hA hR hP
theorem UG(m:Nat)(hm:1<=m/\m<=9)(u:List Int)(hu:u.length=m)(ps:List (List Int))(hps:aU (rn (n+58)) (k+1) ZS [.int m]=some (.new (ps.map λx=>~~~x)))(hnp:ZS.np=1)(hp:∀p∈ps,∃a b:Int,p=[a,b]/\0<=a/\a<m/\0<=b/\b<m)(hnd:ps.Nodup)(hl:ps.length<=100)(hg:wY (jv u) ps=true) :
  aU (rn (n+60)) (k+2) (Dm pa al ti) [~~~u]=some (.new ((IW (jv u) ps).map λr=>.tup (r.map λx=>~~~x))):=by
 obtain⟨b3,b4,d⟩:=sJ U hT (n:=n+37) (k:=k+1) m u hu ps hp ps [] .no .no .no .no (λ_ h=>h) hnd hl rfl
 have d':pN (rn (n+57)) [] (k+2) 2 3 (.tp [3,4]) (.slot 1) [(.slot 3),(.slot 4)] (.call ti [(.ix (.slot 0) (.slot 3)),(.ix (.slot 0) (.slot 4))]) [.dat (~~~u),.own (ps.map λx=>~~~x)]=some ((ps,ps.map λp=>~~~(jv u p)),[.dat (~~~u),.dat (.lst (ps.map λx=>~~~x))]):=by
  have hw:dg (rn (n+57)) [] (k+2) true (.slot 1) [.dat (~~~u),.own (ps.map λx=>~~~x)]=some (ps.map λx=>~~~x,[.dat (~~~u),.dat (.lst (ps.map λx=>~~~x))]):=by simp! [U,dg]
  unfold pN;rw[show Tg.fL (.tp [3,4])=true from rfl,hw]
  dsimp only;rw[eP ⟨rfl,rfl⟩];have dd:S2 (rn (n+57)) [] (k+2) (.tp [3,4]) [(.slot 3),(.slot 4)] (.call ti [(.ix (.slot 0) (.slot 3)),(.ix (.slot 0) (.slot 4))]) (ps.map λx=>~~~x) [] [] (gD 3 [.dat (~~~u),.dat (.lst (ps.map λx=>~~~x))])=_:=d
  rw[dd];rfl
 have a1:=Dp U hR (n:=n+18) (k:=k) (.vg ps (ps.map λp=>~~~(jv u p))) (jv u) ps (λp tN=>by
  show (match aP (p.map .int)with |some n=>Ph ps (ps.map λp=>~~~(jv u p)) n |none=>none)=_
  rw[ints_map];exact Ag (λp=>~~~(jv u p)) tN) hg hl
 unfold aU Dm;simp! [U,hu,hP,aE (fx:=ZS) hnp,hps,d',hA,aM (fx:=jV rf) rfl,a1]
end
theorem nF(m:Nat):∀(s:Nat) (r:List Int),r.length=s->r.Nodup->(∀x∈r,x∈nums m)->r∈bT m s
 | 0,r,h,_,_=>by
  rw[List.length_eq_zero_iff.mp h];exact y8 []
 |s+1,r,h,hn,hm=>by
  obtain⟨a,x,rfl⟩:∃a x,r=a++[x]:=⟨r.dropLast,r.getLast (by rintro rfl;cases h),(List.dropLast_concat_getLast _).symm⟩
  rw[dL,l7]at h;rw[v4]at hn;unfold bT ext;rw[B2];refine⟨a,nF m s a ⋯ hn.1 λy hy=>hm y (pE _ hy),?_⟩
  rw[fA];refine⟨x,i7.mpr ⟨hm x (gN _ (y8 x)),?_⟩,rfl⟩;rw[AL,u8];exact λhx=>hn.2.2 x hx x (y8 x) rfl
theorem fV{m:Nat}{t:List Int}(h:Tn m t):t∈turnsOf m:=nF m m t h.length h.nodup λx hx=>eL.mpr (h.mem.mp hx)
theorem NT{m:Nat}{x:List Int}(h:Pr m x):x∈prs m:=by obtain⟨a,b,rfl,h1,h2,h3⟩:=h;unfold prs pacc;rw[List.mem_flatten];refine⟨mH m a.toNat,fA.mpr ⟨a.toNat,lS.mpr ⋯,rfl⟩,?_⟩;unfold mH;rw[fA];refine⟨(b - a - 1).toNat,lS.mpr ⋯,?_⟩;rw[show ((a.toNat:Nat):Int)=a by lia,show a+1+(((b - a - 1).toNat:Nat):Int)=b by lia]
def Jy(m:Nat)(t:List Int):List (List (List Int)):=IW (jv t) (prs m)
theorem kX(l:List (List Int))(x:List Int):Dj l x=decide (x∈l):=by
 unfold Dj;rw[List.any_map,t7,AS,b8];constructor
 . rintro⟨a,ha,e⟩;have e':cR (a.map .int) (x.map .int)=true:=e;rw[dz,b8]at e';rw[<- e'];exact ha
 . intro h;refine⟨x,h,?_⟩;show cR (x.map .int) (x.map .int)=true;rw[dz,b8]
theorem Ja{m:Nat}{a b:List (List Int)}(ha:Wb m a)(hb:Wb m b)(h:∀x,x∈a ↔ x∈b):a=b:=by
 have hp:a.Perm b:=(AO ha.nodup hb.nodup).mpr h;have e1:=dW (O:=cT) hp (ha.VM.imp λ{x y} q=>gK.le_of_lt (O:=cT) q)
 have e2:=dW (O:=cT) (oI b) (hb.VM.imp λ{x y} q=>gK.le_of_lt (O:=cT) q)
 rw[e1,<- e2]
theorem kY{m:Nat}(hm:1<=m/\m<=6)(aj:List (List Int))(x:List Int):x∈dN m aj ↔ Pr m x/\x∉aj:=by unfold dN;rw[i7,kX,AL,u8];exact⟨λh=>⟨(iV hm).1 x h.1,h.2⟩,λh=>⟨NT h.1,h.2⟩⟩
theorem kZ{m:Nat}(hm:1<=m/\m<=6){aj:List (List Int)}(h:Wb m aj):dN m (dN m aj)=aj:=by
 refine Ja (qD hm _) h λx=>?_
 rw[kY hm,kY hm];constructor
 . rintro⟨h1,h2⟩;exact Classical.byContradiction λh3=>h2 ⟨h1,h3⟩
 . intro hx;exact⟨h.tie x hx,λz=>z.2 hx⟩
theorem Jb(t:List Int)(aj:List (List Int))(x:List Int):x∈tw t aj ↔ ∃y∈aj,tm t y=x:=by unfold tw;rw[(bZ (O:=cT) _).mem_iff,fA]
theorem NX{m:Nat}{t:List Int}(ht:Tn m t){x:List Int}(hx:Pr m x):∃y,Pr m y/\tm t y=x:=by
 obtain⟨c,d,rfl,h1,h2,h3⟩:=hx;have hl:=ht.length;have Iu:∀c:Int,0<=c/\c<m->∃a:Int,(0<=a/\a<m)/\gt t a=c:=λc hc=>by
  obtain⟨j,hj,e⟩:=AU (ht.mem.mpr hc);exact⟨j,by lia,by simp[gt,hj,e]⟩
 obtain⟨a,ha,rfl⟩:=Iu c ⋯;obtain⟨b,hb,rfl⟩:=Iu d ⋯;have eY:a≠b:=λe=>by rw[e]at h2;lia
 exact⟨xC a b,Io ha hb eY,by rw[uF ht ha hb eY,iT h2]⟩
theorem yX{m:Nat}(hm:1<=m/\m<=6){aj:List (List Int)}(h:Wb m aj){t:List Int}(ht:Tn m t):dN m (tw t aj)=tw t (dN m aj):=by
 refine Ja (qD hm _) ((qD hm aj).turn ht) λx=>?_
 rw[kY hm,Jb,Jb];constructor
 . rintro⟨h1,h2⟩;obtain⟨y,hy,e⟩:=NX ht h1;exact⟨y,(kY hm aj y).mpr ⟨hy,λz=>h2 ⟨y,z,e⟩⟩,e⟩
 . rintro⟨y,hy,rfl⟩;obtain⟨h1,h2⟩:=(kY hm aj y).mp hy;refine⟨PB ht h1,?_⟩;rintro⟨z,hz,e⟩;rw[uE ht (h.tie z hz) h1 e]at hz;exact h2 hz
theorem NZ{m:Nat}(hm:1<=m/\m<=6){aj:List (List Int)}(h:Wb m aj):led m (dN m aj) m (dN m aj)=led m aj m aj:=by
 unfold led;refine BI λt ht=>?_
 have tt:=(d9 hm).1 t ht;rw[decide_eq_decide];refine and_congr Iff.rfl ?_;rw[<- yX hm h tt];constructor
 .
  intro e;have:=congrArg (dN m) e
  rwa [kZ hm (h.turn tt),kZ hm h]at this
 . intro e;rw[e]
theorem N1{m:Nat}(hm:1<=m/\m<=6):(prs m).length=m * (m - 1) / 2:=by
 obtain⟨h1,h2⟩:=hm
 match m,h1,h2 with
 | 1,_,_=>decide +kernel
 | 2,_,_=>decide +kernel
 | 3,_,_=>decide +kernel
 | 4,_,_=>decide +kernel
 | 5,_,_=>decide +kernel
 | 6,_,_=>decide +kernel
theorem N2{m:Nat}(hm:1<=m/\m<=6){aj:List (List Int)}(h:Wb m aj):aj.length+(dN m aj).length=m * (m - 1) / 2:=by
 have e:(prs m).filter (Dj aj)=aj:=by
  conv=>rhs;rw[<- kZ hm h]
  unfold dN;refine BI λx hx=>?_
  rw[kX,kX,t7,b8,AL,u8,i7,kX,AL,u8];constructor
  . exact λz q=>q.2 z
  . intro z;exact Classical.byContradiction λq=>z ⟨hx,q⟩
 have:((prs m).filter (Dj aj)).length+(dN m aj).length=(prs m).length:=by unfold dN;rw[<- List.countP_eq_length_filter,<- List.countP_eq_length_filter];exact (List.length_eq_countP_add_countP (p:=Dj aj) (l:=prs m)).symm▸⋯
 rw[e,N1 hm]at this;exact this
theorem UJ{t:List Int}{x:Int}(h:x∈t):gt t (t.idxOf x:Nat)=x:=by have hl:=List.idxOf_lt_length_iff.mpr h;unfold gt;rw[nN,dE,gL hl];exact List.getElem_idxOf hl
theorem N3{m:Nat}{t:List Int}(ht:Tn m t):∃v,Tn m v/\∀X,Wb m X->tw v (tw t X)=X:=by
 have hl:=ht.length;have idx:∀i:Int,0<=i/\i<m->(t.idxOf (gt t i):Int)=i:=λi hi=>by
  have hx:gt t i∈t:=ht.mem.mpr (ht.gj hi);have:=List.idxOf_lt_length_iff.mpr hx;exact ht.inj ⋯ hi (UJ hx)
 have g:∀x:Int,0<=x/\x<m->gt (inv m t) x=(t.idxOf x:Nat):=λx h=>by
  have:x.toNat<m:=by lia
  unfold gt inv;simp[this];rw[show max x 0=x by lia]
 have im:inv m t=(nums m).map λx=>(t.idxOf x:Int):=by unfold inv nums;rw[List.map_map];rfl
 have tn:Tn m (inv m t):=by
  refine Tn.of ?_;have h1:(t.map λx=>(t.idxOf x:Int)).Perm ((nums m).map λx=>(t.idxOf x:Int)):=ht.perm.map _
  rw[<- im]at h1;have h2:(t.map λx=>(t.idxOf x:Int))=nums m:=by
   conv=>lhs;arg 2;rw[<- uC hl]
   rw[List.map_map]
   conv=>rhs;rw[<- List.map_id (nums m)]
   refine kS λx hx=>?_
   exact idx x (eL.mp hx)
  rw[h2]at h1;exact h1.symm
 refine⟨inv m t,tn,λX hX=>?_⟩
 rw[Ik hX ht tn];refine YB hX λi hi=>?_
 have hi':i.toNat<t.length:=by lia
 have e:gt (t.map (gt (inv m t))) i=gt (inv m t) (gt t i):=by unfold gt;simp[hi']
 rw[e,g _ (ht.gj hi)];exact idx i hi
theorem Tn.then{m:Nat}{t u:List Int}(ht:Tn m t)(hu:Tn m u):Tn m (t.map (gt u)):=by refine Tn.of ?_;have h1:(t.map (gt u)).Perm ((nums m).map (gt u)):=ht.perm.map _;rw[uC hu.length]at h1;exact h1.trans hu.perm
theorem UL{m:Nat}{a b:List (List Int)}{t u:List Int}(ha:Wb m a)(hb:Wb m b)(ht:Tn m t)(hu:Tn m u)(e:tw t a=tw u b):∃v∈led m a m b,True:=by
 obtain⟨v,hv,hb2⟩:=N3 hu;refine⟨t.map (gt v),?_,trivial⟩;unfold led;rw[i7];refine⟨fV (ht.then hv),?_⟩
 rw[b8];refine⟨rfl,?_⟩;rw[<- Ik ha ht hv,e,hb2 b hb]
theorem wZ{α:Type}(O:gK α):∀(l:List α) (n:α),kG O n l∈n::l
 | [],n=>y8 n
 |m::l,n=>by
  have ih:=wZ O l (if O.lt m n then m else n)
  show kG O (if O.lt m n then m else n) l∈n::m::l
  rcases dS.mp ih with e |e
  .
   rw[e];by_cases h:O.lt m n=true
   . rw[eP h];exact aS _ bP
   . rw[eQ h];exact bP
  . exact aS _ (aS _ e)
theorem mL{T:Tg}{b:G->Option (Fl×G)}{d:D}{l:List D}{g g0 g1:G}(h0:T.set d g=some g0)(h:b g0=some (.nx,g1)):eK T b (d::l) g=eK T b l g1:=by
 conv=>lhs;unfold eK
 rw[h0];dsimp only;rw[h]
def yZ:Fx:=⟨1,1,[(.ret (.bN 1 3 (.nm 2) (.cM (.slot 0)) none (.nm 3) (.cO (.bin .Add (.slot 2) (.val (.int 1))) (.slot 0)) none (.tup [(.slot 2),(.slot 3)])))]⟩
def Jc:Fx:=⟨2,4,[(.set 2 (.val (.int 1))),(.loop (.nm 3) (.cM (.slot 1)) [(.aug 2 .Mult (.slot 0))]),(.ret (.slot 2))]⟩
def y9:Fx:=⟨1,3,[(.set 1 (.val (.int 1))),(.loop (.nm 2) (.cO (.val (.int 1)) (.bin .Add (.slot 0) (.val (.int 1)))) [(.aug 1 .Mult (.slot 2))]),(.ret (.slot 1))]⟩
section
variable{k n:Nat}{rn:Nat->Rn}{fns:List Fx}(U:ju fns rn)
include U
theorem Jd(m:Nat)(hm:m<=9)(hl:(prs m).length<=100):aU (rn (n+20)) k yZ [.int m]=some (.new ((prs m).map λx=>~~~x)):=by
 have e0:(prs m).map (λx=>~~~x)=(List.range m).flatMap λa=>((List.range (m - (a+1))).map λ(b:Nat)=>(a:Int)+1+(b:Int)).map λy=>~~~[(a:Int),y]:=by
  unfold prs pacc mH;rw[List.map_flatten,List.map_map,List.flatMap]
  congr 1
  refine kS λa _=>?_
  show List.map _ (List.map _ _)=_;rw[List.map_map,List.map_map];rfl
 have hl':((List.range m).flatMap λa=>(List.range (m - (a+1))).map λ(b:Nat)=>(a:Int)+1+(b:Int)).length<=lim:=by
  refine au _ (hV (Nat.le_of_eq ?_) (hV hl ⋯));unfold prs pacc mH;rw[List.flatMap,List.length_flatten,List.length_flatten,List.map_map,List.map_map]
  congr 1
  refine kS λa _=>?_
  simp
 have w:=Aa (rn:=rn (n+18)) (bor:=[]) (k:=k) (g:=[.dat (.int m)]) (g1:=[.dat (.int m)]) (kk:=3) (nn:=1) (j1:=2) (j2:=3) (j3:=.cM (.slot 0)) (it:=.cO (.bin .Add (.slot 2) (.val (.int 1))) (.slot 0)) (c:=none) (e:=.tup [(.slot 2),(.slot 3)]) (List.range m) (λ(a:Nat)=>D.int (a:Int)) (λa=>(List.range (m - (a+1))).map λ(b:Nat)=>(a:Int)+1+(b:Int)) D.int (λ_ _=>true) (λa y=>~~~[(a:Int),y]) (by
  have hr:bU 0 m=(List.range m).map λ(j:Nat)=>D.int (j:Int):=by unfold bU;exact kS λx _=>by rw[CA]
  simp! [U,dg,aD (m:Int) ⋯,hr]) rfl ⋯ ⋯ ⋯ ⋯ ⋯ ⋯ ⋯ hl' (λa ha G' hG=>by
  have h0:G'[0]?=some (.dat (.int m)):=hG.1 0 ⋯;have h2:=hG.2;rw[lS]at ha;have e1:((m:Int) - ((a:Int)+1)).toNat=m - (a+1):=by lia
  have e2:bU ((a:Int)+1) (m - (a+1))=((List.range (m - (a+1))).map λ(b:Nat)=>(a:Int)+1+(b:Int)).map .int:=by unfold bU;rw[List.map_map];rfl
  simp! [U,dg,h0,h2,aD (m:Int) ⋯,aD ((a:Int)+1) ⋯,e1,e2]) (λa _ b _ G' _=>rfl) (λa ha b hb _ G' hG=>by
  have h1:=hG.2.1;have h2:=hG.2.2;simp! [U,h1,h2];rfl)
 simp only[filter_all]at w;rw[e0];unfold aU yZ;simp! [U,w]
theorem UT(b:Int)(m:Nat)(hb : -(2 ^ 64)<b/\b<2 ^ 64)(hm:m<=1000):aU (rn (n+20)) k Jc [.int b,.int m]=some (.dat (.int (b ^ m))):=by
 have lp:∀(l:List Nat) (c:Int) (a3:Slot),∃b3,eK (.nm 3) ((rn (n+19)).b [] k [(.aug 2 .Mult (.slot 0))]) (l.map λ(j:Nat)=>D.int (j:Int)) [.dat (.int b),.dat (.int m),.dat (.int c),a3]=some (.nx,[.dat (.int b),.dat (.int m),.dat (.int (c * b ^ l.length)),b3]):=λl=>by
  induction l with
  |nil=>intro c a3;exact⟨a3,by simp[eK]⟩
  |cons x l ih=>
   intro c a3;obtain⟨b3,w⟩:=ih (c * b) (.dat (.int (x:Int)));refine⟨b3,?_⟩;have e:Cy .Mult (.int c) (.int b)=some (.int (c * b)):=by
    have:jO c b=true:=by unfold jO;simp only[n0,c8,b8];exact .inr hb
    show (if jO c b=true then _ else _)=_
    rw[eP this]
   have q:(rn (n+19)).b [] k [(.aug 2 .Mult (.slot 0))] [.dat (.int b),.dat (.int m),.dat (.int c),.dat (.int (x:Int))]=some (.nx,[.dat (.int b),.dat (.int m),.dat (.int (c * b)),.dat (.int (x:Int))]):=by simp! [U,e]
   rw[List.map_cons,mL (rfl:(Tg.nm 3).set _ _=_) q,w,eI,Int.pow_succ,Int.mul_assoc,Int.mul_comm b]
 obtain⟨b3,w⟩:=lp (List.range m) 1 .no;rw[AK,Int.one_mul]at w;generalize hb:(rn (n+19)).b [] k [(.aug 2 .Mult (.slot 0))]=bb at w;unfold aU Jc;simp! [U,dg,Tg.ix,Tg.fL,aD (m:Int) ⋯,bU,hb,w]
theorem Je(m:Nat)(hm:m<=9):aU (rn (n+20)) k y9 [.int m]=some (.dat (.int (wN m))):=by
 obtain⟨g',⟨i,b2,hi,hl,rfl⟩,w⟩:=cB (T:=.nm 2) (b:=(rn (n+19)).b [] k [(.aug 1 .Mult (.slot 2))]) (λ(j:Nat)=>D.int (1+(j:Int)))
  (I:=λl g=>∃(i:Nat) (b2:Slot),i<=m/\l=List.range' i (m - i)/\g=[.dat (.int m),.dat (.int (wN i)),b2])
  (step:=λa l g h=>by
   obtain⟨i,b2,hi,hl,rfl⟩:=h;cases hmi:m - i with
   |zero=>rw[hmi]at hl;cases hl
   |succ q=>
    rw[hmi,xI]at hl;obtain⟨rfl,rfl⟩:=List.cons.inj hl;have e:Cy .Mult (.int (wN a)) (.int (1+(a:Int)))=some (.int (wN (a+1))):=by
     have:jO (wN a) (1+(a:Int))=true:=by unfold jO;simp only[n0,c8,b8];right;lia
     show (if jO (wN a) (1+(a:Int))=true then _ else _)=_
     rw[eP this];show _=some (D.int (wN a * ((a+1:Nat):Int)));rw[show 1+(a:Int)=((a+1:Nat):Int)by lia]
    refine⟨_,_,rfl,?_,a+1,.dat (.int (1+(a:Int))),by lia,by rw[show m - (a+1)=q by lia],rfl⟩
    show (rn (n+19)).b [] k _ [.dat (.int m),.dat (.int (wN a)),.dat (.int (1+(a:Int)))]=_;simp! [U,e]) (List.range m) [.dat (.int m),.dat (.int 1),.no] ⟨0,.no,by lia,by rw[pV];rfl,rfl⟩
 have hmi:m - i=0:=by have:=congrArg List.length hl;rw[Bz]at this;exact this.symm
 have hi':i=m:=by lia
 subst hi';generalize hb:(rn (n+19)).b [] k [(.aug 1 .Mult (.slot 2))]=bb at w;have e1:((i:Int)+1 - 1).toNat=i:=by lia
 unfold aU y9;simp! [U,dg,Tg.ix,Tg.fL,aD 1 ⋯,aD ((i:Int)+1) ⋯,bU,e1,hb,w]
end
noncomputable def UW:List Int->List Int->List Int
 | [],acc=>acc
 |n::t,acc=>UW t (acc++(List.range (n.toNat - 1)).map (λi=>((acc.length+1+i:Nat):Int))++[(acc.length:Int)])
def uO(t:List Int):List Int:=UW t []
noncomputable def U0:List Int->List Int
 | []=>[]
 |a::l=>List.replicate ((a.toNat - 1) / 2) a++(if a.toNat % 2=0 then [a / 2]else [])++(l.flatMap λb=>List.replicate (Nat.gcd a.toNat b.toNat) ((Nat.lcm a.toNat b.toNat:Nat):Int))++U0 l
def lg(rs:List (List (List Int))):List Int:=rs.map λr=>(r.length:Int)
def dD(t:List Int):List Int:=(bw (U0 t)).reverse
def N4(mk om:Nat):Fx:=⟨2,5,[(.expr (.call mk [(.slot 0),(.slot 1)])),(.set 2 (.val (.int 1))),(.loop (.tp [3,4]) (.enum (.slot 1)) [(.aug 2 .Mult (.bin .Mult (.slot 4) (.meth .count (.slice (.slot 1) none (some (.bin .Add (.slot 3) (.val (.int 1))))) (.slot 4))))]),(.ret (.bin .FloorDiv (.call om [(.slot 0)]) (.slot 2)))]⟩
def YG:Fx:=⟨1,4,[(.set 1 (.lst [])),(.loop (.nm 2) (.slot 0) [(.set 3 (.blt .len [(.slot 1)])),(.aug 1 .Add (.fU (.bin .Add (.slot 3) (.val (.int 1))) (.bin .Add (.slot 3) (.slot 2)))),(.expr (.append 1 (.slot 3)))]),(.ret (.blt .tuple [(.slot 1)]))]⟩
def Ah(mk ro tw:Nat):Fx:=⟨2,2,[(.expr (.call mk [(.slot 0),(.slot 1)])),(.ret (.blt .tuple [(.iG (.comp 2 2 (.nm 3) (.call ro [(.call tw [(.slot 1)])]) none (.blt .len [(.slot 3)])))]))]⟩
def PN(ak tm sm om:Nat):Fx:=⟨1,2,[(.setC 1 (.comp 2 2 (.nm 3) (.call ak [(.slot 0)]) none (.bin .Mult (.call tm [(.slot 0),(.slot 3)]) (.call sm [(.slot 0),(.slot 3)])))),(.ret (.bin .FloorDiv (.blt .sum [(.slot 1)]) (.call om [(.slot 0)])))]⟩
def PX(j:Nat)(t:List Int):Bool:=decide ((uO t).length=j)&&wY (jv (uO t)) (prs j)&&decide (bw (lg (Jy j (uO t)))=bw (U0 t))&&decide ((U0 t).length<=36)&&decide (t.length<=9)&&t.all (λa=>decide (1<=a/\a<=9))&&decide (0<fG [] t/\fG [] t<1073741824)&&(dD t).all (λl=>decide (0<=l/\l<=36))&&decide (1+(dD t).sum<=100)&&decide (0<=cnt j t/\cnt j t<=1000000)
structure Kd(j:Nat)(t:List Int):Prop where
 hj:1<=j/\j<=9
 ht:t∈kinds j
 tl:(uO t).length=j
 gp:wY (jv (uO t)) (prs j)=true
 so:bw (lg (Jy j (uO t)))=bw (U0 t)
 cl:(U0 t).length<=36
 le:t.length<=9
 pa:∀a∈t,1<=a/\a<=9
 dv:0<fG [] t/\fG [] t<1073741824
 pl:∀l∈dD t,0<=l/\l<=36
 su:1+(dD t).sum<=100
 cn:0<=cnt j t/\cnt j t<=1000000
theorem Kd.of{j:Nat}{t:List Int}(hj:1<=j/\j<=9)(ht:t∈kinds j)(h:PX j t=true):Kd j t:=by unfold PX at h;simp only[c8,b8,eJ]at h;obtain⟨⟨⟨⟨⟨⟨⟨⟨⟨h1,h2⟩,h3⟩,h4⟩,h5⟩,h6⟩,h7⟩,h8⟩,h9⟩,h10⟩:=h;exact⟨hj,ht,h1,h2,h3,h4,h5,h6,h7,h8,h9,h10⟩
theorem Dq(t:List Int):(dD t).length=(U0 t).length:=by unfold dD;rw[List.length_reverse,(bM _).length_eq]
section
variable{k n:Nat}{g g1:G}{rn:Nat->Rn}{fns:List Fx}(U:ju fns rn)
include U
omit U in
theorem Jf(l:List Int)(x:Int):X4 .count (~~~l) (.int x)=some (.int ((l.count x:Nat):Int)):=by
 have h1:iH (.int x) (l.map .int)=true:=by simp[iH,gF,dB,fE]
 show (if iH (.int x) (l.map .int)=true then some (D.int ((l.map D.int).countP λd=>cD d (.int x):Nat))else none)=_
 rw[eP h1,List.countP_map]
 congr 2
theorem YH(t:List Int)(hp:∀a∈t,1<=a/\a<=9)(hl:t.length<=9):aU (rn (n+20)) k YG [~~~t]=some (.dat (~~~(uO t))):=by
 have lp:∀(l acc:List Int) (a2 a3:Slot),(∀a∈l,1<=a/\a<=9)->acc.length+9 * l.length<=100->∃b2 b3,eK (.nm 2) ((rn (n+19)).b [] k [(.set 3 (.blt .len [(.slot 1)])),(.aug 1 .Add (.fU (.bin .Add (.slot 3) (.val (.int 1))) (.bin .Add (.slot 3) (.slot 2)))),(.expr (.append 1 (.slot 3)))]) (l.map .int) [.dat (~~~t),.own (acc.map .int),a2,a3]=some (.nx,[.dat (~~~t),.own ((UW l acc).map .int),b2,b3]):=λl=>by
  induction l with
  |nil=>intro acc a2 a3 _ _;exact⟨a2,a3,rfl⟩
  |cons a l ih=>
   intro acc a2 a3 hp hl;have ha:=hp a bP;rw[eI]at hl;obtain⟨b2,b3,w⟩:=ih (acc++(List.range (a.toNat - 1)).map (λi=>((acc.length+1+i:Nat):Int))++[(acc.length:Int)]) (.dat (.int a)) (.dat (.int (acc.length:Int))) (λx hx=>hp x (aS _ hx)) (by
    rw[dL,dL,dC,AK,l7];lia)
   refine⟨b2,b3,?_⟩;have q:(rn (n+19)).b [] k [(.set 3 (.blt .len [(.slot 1)])),(.aug 1 .Add (.fU (.bin .Add (.slot 3) (.val (.int 1))) (.bin .Add (.slot 3) (.slot 2)))),(.expr (.append 1 (.slot 3)))] [.dat (~~~t),.own (acc.map .int),.dat (.int a),a3]=some (.nx,[.dat (~~~t),.own ((acc++(List.range (a.toNat - 1)).map (λi=>((acc.length+1+i:Nat):Int))++[(acc.length:Int)]).map .int),.dat (.int a),.dat (.int (acc.length:Int))]):=by
    have e1:(((acc.length:Int)+a) - ((acc.length:Int)+1)).toNat=a.toNat - 1:=by lia
    have e2:bU ((acc.length:Int)+1) (a.toNat - 1)=((List.range (a.toNat - 1)).map (λi=>((acc.length+1+i:Nat):Int))).map .int:=by unfold bU;rw[List.map_map];exact kS λx _=>by show D.int _=D.int _;congr 1
    have l1:=au (a.toNat - 1) ⋯;have l2:=au (acc.length+(a.toNat - 1)) ⋯;have l3:acc.length+(a.toNat - 1)<lim:=au (acc.length+(a.toNat - 1)+1) ⋯;simp! [U,aD ((acc.length:Int)+1) ⋯,aD ((acc.length:Int)+a) ⋯,e1,e2,l1,l2,l3];rfl
   rw[List.map_cons,mL (rfl:(Tg.nm 2).set _ _=_) q];exact w
 obtain⟨b2,b3,w⟩:=lp t [] .no .no hp (by rw[tS];lia)
 generalize hb:(rn (n+19)).b [] k [(.set 3 (.blt .len [(.slot 1)])),(.aug 1 .Add (.fU (.bin .Add (.slot 3) (.val (.int 1))) (.bin .Add (.slot 3) (.slot 2)))),(.expr (.append 1 (.slot 3)))]=bb at w;rw[List.map_nil]at w;unfold aU YG uO;simp! [U,dg,Tg.ix,Tg.fL,hb,w]
variable{mk om ro tw pl po ik mw w wi fa ci cj al ti rf pa:Nat}(hW:fns[w]?=some bI)(hF:fns[fa]?=some jA)(hI:fns[wi]?=some (bD w))(hM:fns[mw]?=some (cz wi ci))(hK:fns[ik]?=some (cY mw w fa))(YJ:fns[mk]?=some (d7 ik cj))
include hW hF hI hM hK YJ
theorem U1(hO:fns[om]?=some y9){j:Nat}{t:List Int}(K:Kd j t):aU (rn (n+60)) (k+6) (N4 mk om) [.int j,~~~t]=some (.dat (.int (cnt j t))):=by
 have q0:=λn k=>nD U hW hF hI hM hK (n:=n) (k:=k) (cj:=cj) j K.hj t K.ht (by have:=K.le;lia)
 have q1:=λn k=>Je U (n:=n) (k:=k) j (by have:=K.hj;lia)
 have lp:∀(l b:List Int) (c:Int) (a3 a4:Slot),t=b++l->∃b3 b4,eK (.tp [3,4]) ((rn (n+59)).b [] (k+6) [(.aug 2 .Mult (.bin .Mult (.slot 4) (.meth .count (.slice (.slot 1) none (some (.bin .Add (.slot 3) (.val (.int 1))))) (.slot 4))))]) ((l.zipIdx b.length).map λp=>.tup [.int (p.2:Int),.int p.1]) [.dat (.int j),.dat (~~~t),.dat (.int c),a3,a4]=some (.nx,[.dat (.int j),.dat (~~~t),.dat (.int (c * fG b l)),b3,b4]):=λl=>by
  induction l with
  |nil=>intro b c a3 a4 _;exact⟨a3,a4,by simp[eK,fG]⟩
  |cons a l ih=>
   intro b c a3 a4 ht;obtain⟨b3,b4,w⟩:=ih (b++[a]) (c * (a * (((b++[a]).count a:Nat):Int))) (.dat (.int (b.length:Int))) (.dat (.int a)) (by rw[ht,v3];rfl)
   refine⟨b3,b4,?_⟩;have ha:=K.pa a (by rw[ht];simp)
   have hl:=K.le;rw[ht,dL,eI]at hl;have hc:(b++[a]).count a<=9:=hV List.count_le_length (by rw[dL,l7];lia)
   have e1:=fu a (((b++[a]).count a:Nat):Int) (.inl ⟨by lia,by lia⟩)
   generalize hN:(((b++[a]).count a:Nat):Int)=N at w e1;have Sq:0<=N/\N<=9:=by lia
   have e2:Cy .Mult (.int c) (.int (a * N))=some (.int (c * (a * N))):=by
    have hb:a * N<=9 * 9:=Int.mul_le_mul ha.2 Sq.2 Sq.1 ⋯;have hb':0<=a * N:=Int.mul_nonneg ⋯ Sq.1;have:jO c (a * N)=true:=by unfold jO;simp only[n0,c8,b8];right;lia
    show (if jO c (a * N)=true then _ else _)=_
    rw[eP this]
   have e3:lO (t.map D.int) none (some ((b.length:Int)+1))=(b++[a]).map .int:=by
    unfold lO;have h1:HT.cG (t.map D.int).length 0 none=0:=rfl;have h2:HT.cG (t.map D.int).length (t.map D.int).length (some ((b.length:Int)+1))=b.length+1:=by
     rw[dC,ht,dL,eI];show (if (b.length:Int)+1<0 then ((b.length:Int)+1+((b.length+(l.length+1):Nat):Int)).toNat else min ((b.length:Int)+1).toNat (b.length+(l.length+1)))=_
     rw[eQ ⋯];lia
    rw[h1,h2,List.drop_zero,Nat.sub_zero,ht,n4,n4,List.map_cons];rw[List.take_append,dC,List.take_of_length_le (by rw[dC];lia),show b.length+1 - b.length=1 by lia]
    rfl
   have e4:X4 .count (~~~(b++[a])) (.int a)=some (.int N):=by rw[Jf,hN]
   generalize hba:b++[a]=ba at e3 e4;have q:(rn (n+59)).b [] (k+6) [(.aug 2 .Mult (.bin .Mult (.slot 4) (.meth .count (.slice (.slot 1) none (some (.bin .Add (.slot 3) (.val (.int 1))))) (.slot 4))))] [.dat (.int j),.dat (~~~t),.dat (.int c),.dat (.int (b.length:Int)),.dat (.int a)]=some (.nx,[.dat (.int j),.dat (~~~t),.dat (.int (c * (a * N))),.dat (.int (b.length:Int)),.dat (.int a)]):=by have e5:bF (~~~ba)=some (ba.map .int):=rfl;simp! [U,zQ,e3,e4,e1,e2,e5]
   rw[List.zipIdx_cons,List.map_cons,mL (rfl:(Tg.tp [3,4]).set _ _=_) q];rw[dL,l7]at w;rw[w];show some (Fl.nx,[_,_,Slot.dat (.int (c * (a * N) * fG (b++[a]) l)),b3,b4])=some (Fl.nx,[_,_,Slot.dat (.int (c * (a * (((b++[a]).count a:Nat):Int) * fG (b++[a]) l))),b3,b4]);rw[hN,Int.mul_assoc,Int.mul_assoc]
 obtain⟨b3,b4,w⟩:=lp t [] 1 .no .no rfl;have e5:=sG t;have dv:=gU (wN j) (fG [] t) K.dv;generalize hb:(rn (n+59)).b [] (k+6) [(.aug 2 .Mult (.bin .Mult (.slot 4) (.meth .count (.slice (.slot 1) none (some (.bin .Add (.slot 3) (.val (.int 1))))) (.slot 4))))]=bb at w;rw[Int.one_mul,tS]at w;unfold aU N4 cnt;simp! [U,YJ,aM (fx:=d7 ik cj) rfl,q0,dg,bF,e5,Tg.ix,Tg.fL,hb,w,hO,aE (fx:=y9) rfl,q1,dv]
end
section
variable{k n:Nat}{g g1:G}{rn:Nat->Rn}{fns:List Fx}(U:ju fns rn)
include U
variable{mk om ro tw pl po ik mw w wi fa ci cj al ti rf pa:Nat}(hW:fns[w]?=some bI)(hF:fns[fa]?=some jA)(hI:fns[wi]?=some (bD w))(hM:fns[mw]?=some (cz wi ci))(hK:fns[ik]?=some (cY mw w fa))(YJ:fns[mk]?=some (d7 ik cj))
variable(hRf:fns[rf]?=some jU)(kN:fns[ti]?=some Dl)(hAl:fns[al]?=some (jV rf))(hPa:fns[pa]?=some yZ)(ZP:fns[ro]?=some (Dm pa al ti))(hTw:fns[tw]?=some YG)
include hW hF hI hM hK YJ hRf kN hAl hPa ZP hTw
theorem N5(P0:∀j:Nat,1<=j/\j<=9->(∀p∈prs j,∃a b:Int,p=[a,b]/\0<=a/\a<j/\0<=b/\b<j)/\(prs j).Nodup/\(prs j).length<=36){j:Nat}{t:List Int}(K:Kd j t):aU (rn (n+80)) (k+10) (Ah mk ro tw) [.int j,~~~t]=some (.dat (~~~(dD t))):=by
 obtain⟨f1,f2,f3⟩:=P0 j K.hj;have q0:=λn k=>nD U hW hF hI hM hK (n:=n) (k:=k) (cj:=cj) j K.hj t K.ht (by have:=K.le;lia)
 have qp:=Jd U (n:=n+53) (k:=k+8) j K.hj.2 ⋯;have q1:=UG U hRf kN hAl hPa (n:=n+15) (k:=k+7) j K.hj (uO t) K.tl (prs j) qp rfl f1 f2 ⋯ K.gp;have qt:=λn k=>YH U (n:=n) (k:=k) t K.pa K.le
 have hl:(Jy j (uO t)).length<=36:=by have:=congrArg List.length K.so;rw[(bM _).length_eq,(bM _).length_eq]at this;unfold lg at this;rw[dC]at this;have:=K.cl;lia
 have w:=gI (rn:=rn (n+76)) (bor:=[]) (k:=k+10) (g:=[.dat (.int j),.dat (~~~t)]) (g1:=[.dat (.int j),.dat (~~~t)]) (kk:=2) (nn:=2) (j:=3) (it:=.call ro [(.call tw [(.slot 1)])]) (e:=.blt .len [(.slot 3)]) (Jy j (uO t)) (λr=>D.tup (r.map λx=>~~~x)) (λr=>.int (r.length:Nat)) (by
  have DK:aU (rn (n+75)) (k+9) (Dm pa al ti) [~~~(uO t)]=some (.new ((Jy j (uO t)).map λr=>.tup (r.map λx=>~~~x))):=q1
  simp! [U,dg,ZP,hTw,aE (fx:=YG) rfl,qt,aE (fx:=(Dm pa al ti)) rfl,DK]) rfl ⋯ ⋯ ⋯ (au _ ⋯) λr hr G' hG=>by
  simp! [U,hG.2]
 have e1':(Jy j (uO t)).map (λr=>D.int (r.length:Nat))=(lg (Jy j (uO t))).map .int:=by unfold lg;rw[List.map_map];rfl
 have Vn:aP ((lg (Jy j (uO t))).map .int)=some (lg (Jy j (uO t))):=ints_map _;have hl2:(lg (Jy j (uO t))).length<64:=by unfold lg;rw[dC];lia
 unfold aU Ah;simp! [U,YJ,aM (fx:=d7 ik cj) rfl,q0,w,e1',Vn,hl2,xx,bF];unfold dD;rw[K.so,List.map_reverse]
end
theorem U3{j:Nat}(h:1<=j/\j<=9):0<wN j/\wN j<1073741824:=by
 obtain⟨h1,h2⟩:=h;have:([1,2,3,4,5,6,7,8,9].all λj=>decide (0<wN j/\wN j<1073741824))=true:=by decide +kernel
 exact l4 (eJ.mp this j (by simp only[dS,l8,AB];lia))
def wmV(v:List Int->Int)(j:Nat):Int:=((kinds j).map λt=>cnt j t * v t).sum / wN j
section
variable{k n:Nat}{g g1:G}{rn:Nat->Rn}{fns:List Fx}(U:ju fns rn)
variable{pl po sm sb tm ak om:Nat}{tX sX bX aX oX:Fx}(hA:fns[ak]?=some aX)(ZV:aX.np=1)(hT:fns[tm]?=some tX)(hT2:tX.np=2)(hO:fns[om]?=some y9)
include U hA ZV hT hT2 hO
theorem U4(v:List Int->Int)(hS:fns[sm]?=some sX)(hS2:sX.np=2){j:Nat}(hj:1<=j/\j<=9)(hK:∀t∈kinds j,Kd j t)(hl:(kinds j).length<=30)(qA:aU (rn (n+28)) k aX [.int j]=some (.new ((kinds j).map λx=>~~~x)))(qT:∀t∈kinds j,aU (rn (n+27)) k tX [.int j,~~~t]=some (.dat (.int (cnt j t))))(qS:∀t∈kinds j,aU (rn (n+27)) k sX [.int j,~~~t]=some (.dat (.int (v t)))):aU (rn (n+30)) (k+1) (PN ak tm sm om) [.int j]=some (.dat (.int (wmV v j))):=by
 have w:=gI (rn:=rn (n+29)) (bor:=[]) (k:=k+1) (g:=[.dat (.int j),.no]) (g1:=[.dat (.int j),.no]) (kk:=2) (nn:=2) (j:=3) (it:=.call ak [(.slot 0)]) (e:=.bin .Mult (.call tm [(.slot 0),(.slot 3)]) (.call sm [(.slot 0),(.slot 3)])) (kinds j) (λt=>~~~t) (λt=>.int (cnt j t * v t)) (by
  simp! [U,dg,hA,aE ZV,qA]) rfl ⋯ ⋯ ⋯ (au _ ⋯) λt ht G' hG=>by
  have h0:G'[0]?=some (.dat (.int j)):=hG.1 0 ⋯;have q1:=qT t ht;have q2:=qS t ht;have K:=hK t ht;have e:=fu (cnt j t) (v t) (.inl ⟨by have:=K.cn;lia,by have:=K.cn;lia⟩)
  simp! [U,h0,hG.2,hT,aM hT2,q1,hS,aM hS2,q2,e]
 have e1:(kinds j).map (λt=>D.int (cnt j t * v t))=((kinds j).map λt=>cnt j t * v t).map .int:=by rw[List.map_map];rfl
 have dv:=gU ((kinds j).map λt=>cnt j t * v t).sum (wN j) (U3 hj)
 have q3:=λn k=>Je U (n:=n) (k:=k) j hj.2
 unfold wmV;generalize ((kinds j).map λt=>cnt j t * v t)=L at e1 dv
 have bs:=wH L;unfold aU PN;simp! [U,w,e1,bs,hO,aE (fx:=y9) rfl,q3,dv]
end
def xg(mw pa:Nat):Fx:=⟨1,3,[(.expr (.call mw [(.slot 0)])),(.tgt (.tp [1,2]) (.slot 0)),(.ret (.tup [(.slot 1),(.blt .tuple [(.comp 3 2 (.nm 4) (.call pa [(.slot 1)]) (some (.cmp .NotIn (.slot 4) (.slot 2))) (.slot 4))])]))]⟩
noncomputable def sL(ft op:Nat):Fx:=⟨1,1,[(.ret (.call ft [(.slot 0),(.call op [(.slot 0)])]))]⟩
def YK:Fx:=⟨1,3,[(.set 1 (.lst [(.tup [])])),(.loop (.nm 2) (.cM (.slot 0)) [(.setC 1 (.bN 3 3 (.nm 4) (.slot 1) none (.nm 5) (.cM (.slot 0)) (some (.cmp .NotIn (.slot 5) (.slot 4))) (.bin .Add (.slot 4) (.tup [(.slot 5)]))))]),(.ret (.slot 1))]⟩
def xm(mw at' le:Nat):Fx:=⟨1,1,[(.expr (.call mw [(.slot 0)])),(.ret (.blt .min [(.comp 1 2 (.nm 2) (.call at' [(.ix (.slot 0) (.val (.int 0)))]) none (.call le [(.slot 0),(.slot 2)]))]))]⟩
def Jg(pl po:Nat):Fx:=⟨2,3,[(.set 2 (.call pl [(.slot 0),(.slot 1)])),(.ite (.blt .any [(.comp 3 2 (.nm 4) (.slot 2) none (.cmp .Eq (.bin .Mod (.slot 4) (.val (.int 2))) (.val (.int 1))))]) [(.ret (.val (.int 0)))] []),(.ret (.call po [(.val (.int 2)),(.blt .len [(.slot 2)])]))]⟩
def Jh(t:List Int):Int:=if ((dD t).map λl=>decide (l % 2=1)).any id=true then 0 else 2 ^ (dD t).length
theorem nG(m:Nat):∀(s:Nat) (r:List Int),r∈bT m s->r.length=s
 | 0,r,h=>by rw[i6.mp h];rfl
 |s+1,r,h=>by
  unfold bT ext at h;obtain⟨q,hq,h⟩:=B2.mp h;obtain⟨x,_,rfl⟩:=fA.mp h;rw[dL,nG m s q hq];rfl
def nH(m:Nat)(aj:List (List Int)):List (List Int):=match (turnsOf m).map λt=>[(m:Int)]::tw t aj with
 |k::ks=>kG tW k ks
 | []=>[]
theorem sM{m:Nat}{aj:List (List Int)}(hn:turnsOf m≠[]):∃t∈turnsOf m,nH m aj=[(m:Int)]::tw t aj:=by
 unfold nH;cases e:turnsOf m with
 |nil=>exact absurd e hn
 |cons t l=>
  rw[List.map_cons];dsimp only;have:=wZ tW (l.map λt=>[(m:Int)]::tw t aj) ([(m:Int)]::tw t aj)
  rw[<- List.map_cons (f:=λt=>[(m:Int)]::tw t aj)]at this
  obtain⟨u,hu,e2⟩:=fA.mp this;exact⟨u,hu,e2.symm⟩
theorem xq(m:Nat):∀l:List (List (List Int)),(∀x∈l,∀y∈x,y≠[])->jz (l.map λx=>W m x)=some (l.map λx=>[(m:Int)]::x)
 | [],_=>rfl
 |x::l,h=>by
  have e:=qh x (h x bP);rw[List.map_cons,List.map_cons];unfold jz;have e2:Lw (W m x)=some ([(m:Int)]::x):=by
   show (match dP (x.map λx=>~~~x)with |some ts=>some ([(m:Int)]::ts) |none=>none)=_
   rw[e]
  rw[e2,xq m l λy hy=>h y (aS _ hy)]
theorem Dr(m:Nat)(x:List (List Int))(l:List (List (List Int))):aP ((x::l).map λx=>W m x)=none:=rfl
theorem Ds(m:Nat)(x:List (List Int))(l:List (List (List Int))):dP ((x::l).map λx=>W m x)=none:=by
 have:aP [D.int m,.tup (x.map λx=>~~~x)]=none:=rfl
 show (match aP [D.int m,.tup (x.map λx=>~~~x)],dP (l.map λx=>W m x)with |some (n::ns),some dG=>some ((n::ns)::dG) |_,_=>none)=none
 simp only[this]
theorem Wb.ne{m:Nat}{aj:List (List Int)}(h:Wb m aj):∀y∈aj,y≠[]:=λy hy=>by
 obtain⟨a,b,rfl,_⟩:=h.tie y hy;exact List.cons_ne_nil _ _
section
variable{k n:Nat}{g g1:G}{rn:Nat->Rn}{fns:List Fx}(U:ju fns rn)
include U
theorem N6(m:Nat)(hm:m<=6)(l:List (List Int))(hl:l.length<=50000)(hr:∀r∈l,r.length<=10)(a2:Slot):(rn (n+20)).b [] k [(.setC 1 (.bN 3 3 (.nm 4) (.slot 1) none (.nm 5) (.cM (.slot 0)) (some (.cmp .NotIn (.slot 5) (.slot 4))) (.bin .Add (.slot 4) (.tup [(.slot 5)]))))] [.dat (.int m),.own (l.map λr=>~~~r),a2]=some (.nx,[.dat (.int m),.own ((ext m l).map λr=>~~~r),a2]):=by
 have hg:bU 0 m=(nums m).map .int:=iO m;have w:=Iv (rn:=rn (n+19)) (bor:=[]) (k:=k) (g:=[.dat (.int m),.own (l.map λr=>~~~r),a2]) (g1:=[.dat (.int m),.dat (.lst (l.map λr=>~~~r)),a2]) (nn:=3) (kk:=3) (j1:=4) (j2:=5) (j3:=.slot 1) (it:=.cM (.slot 0)) (c:=some (.cmp .NotIn (.slot 5) (.slot 4))) (e:=.bin .Add (.slot 4) (.tup [(.slot 5)])) l (λr=>~~~r) (nums m) .int (λr x=>!decide (x∈r)) (λr x=>~~~(r++[x])) (by simp! [U,dg]) rfl ⋯ ⋯ ⋯ ⋯ ⋯ ⋯ ⋯ (by
   rw[iP];have:l.length * m<=50000 * 6:=Nat.mul_le_mul hl hm;exact hV this ⋯) (λr hr G' hG=>by
   have h0:G'[0]?=some (.dat (.int m)):=hG.1 0 ⋯;simp! [U,dg,h0,aD m ⋯,hg]) (λr hr' x hx G' hG=>by
   simp! [U,pM,hG.2.1,hG.2.2,mG]) λr hr' x hx _ G' hG=>by
   have o:qR .Add (~~~r) (.tup [.int x])=some (.dat (~~~(r++[x]))):=by
    have hlr:(List.map D.int r).length+[D.int x].length<=lim:=au _ (by have:=hr r hr';rw[dC];simp;lia)
    simp only[qR,G3,hlr,u7,n4];rfl
   simp! [U,hG.2.1,hG.2.2,o,au 1 ⋯]
 have e:(l.flatMap λr=>((nums m).filter λx=>!decide (x∈r)).map λx=>~~~(r++[x]))=(ext m l).map λr=>~~~r:=by
  unfold ext;rw[List.map_flatMap]
  congr 1
  funext r
  rw[List.map_map];rfl
 rw[e]at w;simp! [U,w]
theorem YL(m:Nat)(hm:1<=m/\m<=6):aU (rn (n+30)) k YK [.int m]=some (.new ((turnsOf m).map λr=>~~~r)):=by
 obtain⟨g',⟨i,b2,hi,hl,rfl⟩,w⟩:=cB (T:=.nm 2) (b:=(rn (n+29)).b [] k [(.setC 1 (.bN 3 3 (.nm 4) (.slot 1) none (.nm 5) (.cM (.slot 0)) (some (.cmp .NotIn (.slot 5) (.slot 4))) (.bin .Add (.slot 4) (.tup [(.slot 5)]))))]) (λ(j:Nat)=>D.int (j:Int))
  (I:=λl g=>∃(i:Nat) (b2:Slot),i<=m/\l=List.range' i (m - i)/\g=[.dat (.int m),.own ((bT m i).map λr=>~~~r),b2])
  (step:=λa l g h=>by
   obtain⟨i,b2,hi,hl,rfl⟩:=h;cases hmi:m - i with
   |zero=>rw[hmi]at hl;cases hl
   |succ q=>
    rw[hmi,xI]at hl;obtain⟨rfl,rfl⟩:=List.cons.inj hl;have h1:(bT m a).length<=50000:=hV (iU m a) (hV (Nat.pow_le_pow_left hm.2 a) (hV (Nat.pow_le_pow_right ⋯ (show a<=6 by lia)) ⋯))
    have h2:∀r∈bT m a,r.length<=10:=λr hr=>by have:=nG m a r hr;lia
    exact⟨_,_,rfl,N6 U (n:=n+9) m hm.2 (bT m a) h1 h2 (.dat (.int (a:Int))),a+1,_,by lia,by rw[show m - (a+1)=q by lia],rfl⟩) (List.range m) [.dat (.int m),.own [.tup []],.no] ⟨0,.no,by lia,by rw[pV];rfl,rfl⟩
 have hmi:m - i=0:=by have:=congrArg List.length hl;rw[Bz]at this;exact this.symm
 have hi':i=m:=by lia
 subst hi';generalize hb:(rn (n+29)).b [] k [(.setC 1 (.bN 3 3 (.nm 4) (.slot 1) none (.nm 5) (.cM (.slot 0)) (some (.cmp .NotIn (.slot 5) (.slot 4))) (.bin .Add (.slot 4) (.tup [(.slot 5)]))))]=bb at w;unfold aU YK turnsOf;simp! [U,dg,Tg.ix,Tg.fL,aD (i:Int) ⋯,bU,hb,w,au 1 ⋯,au 0 ⋯]
variable{wh wi it ri iw cw mw pa ft op ro fi tt le to at':Nat}(hW:fns[wh]?=some bI)(hI:fns[wi]?=some (bD wh))(kN:fns[it]?=some (iQ wi))(Df:fns[ri]?=some wO)(xB:fns[iw]?=some (iR wi it ri))(z9:fns[mw]?=some (bW iw cw))
include hW hI kN Df xB z9
theorem Ji(hPa:fns[pa]?=some yZ)(m:Nat)(hm:1<=m/\m<=6)(aj:List (List Int))(h:Wb m aj):aU (rn (n+80)) (k+7) (xg mw pa) [W m aj]=some (.dat (W m (dN m aj))):=by
 obtain⟨_,_,aJ⟩:=iV hm;have y:=λn k=>d8 (ci:=cw) U hW hI kN Df xB (n:=n) (k:=k) m aj hm h
 have po:=λn k=>Jd U (n:=n) (k:=k) m ⋯ ⋯
 have st:∀s1 s2,Tg.set (.tp [1,2]) (W m aj) [.dat (W m aj),s1,s2]=some [.dat (W m aj),.dat (.int m),.dat (.tup (aj.map λx=>~~~x))]:=λ_ _=>rfl
 have w:=wF (rn:=rn (n+76)) (bor:=[]) (k:=k+7) (g:=[.dat (W m aj),.dat (.int m),.dat (.tup (aj.map λx=>~~~x))]) (g1:=[.dat (W m aj),.dat (.int m),.dat (.tup (aj.map λx=>~~~x))]) (kk:=2) (nn:=3) (j:=4) (it:=.call pa [(.slot 1)]) (c:=some (.cmp .NotIn (.slot 4) (.slot 2))) (e:=.slot 4) (prs m) (λx=>~~~x) (λx=>!Dj aj x) (λx=>~~~x) (by simp! [U,dg,hPa,aE (fx:=yZ) rfl,po]) rfl ⋯ ⋯ ⋯ (au _ ⋯)
  (λa _ G' hG=>by
   have h2:G'[2]?=some (.dat (.tup (aj.map λx=>~~~x))):=hG.1 2 ⋯
   simp! [U,pM,hG.2,h2,Dk])
  (λa _ _ G' hG=>by simp! [U,hG.2])
 unfold aU xg;simp! [U,z9,aE (fx:=bW iw cw) rfl,y,Tg.ix,st,w,au 2 ⋯];rfl
theorem N7(hPa:fns[pa]?=some yZ)(hR:fns[ro]?=some qx)(hF:fns[fi]?=some qy)(hTT:fns[tt]?=some (eO ro fi))(hFt:fns[ft]?=some (qB mw tt))(hOp:fns[op]?=some (xg mw pa))(m:Nat)(hm:1<=m/\m<=6)(aj:List (List Int))(h:Wb m aj):aU (rn (n+95)) (k+9) (sL ft op) [W m aj]=some (.dat (YD (led m aj m (dN m aj)))):=by
 have q1:=λn k=>Ji U hW hI kN Df xB z9 hPa (n:=n) (k:=k) m hm aj h
 have q2:=λn k=>Iw U hW hI kN Df xB z9 hR hF hTT (n:=n) (k:=k) m m hm hm aj (dN m aj) h (qD hm aj)
 unfold aU sL;simp! [U,hOp,aE (fx:=xg mw pa) rfl,q1,hFt,aM (fx:=qB mw tt) rfl,q2]
theorem N8(VN:fns[to]?=some mF)(hLe:fns[le]?=some (yU to))(hAt:fns[at']?=some YK)(m:Nat)(hm:1<=m/\m<=6)(aj:List (List Int))(h:Wb m aj):aU (rn (n+80)) (k+7) (xm mw at' le) [W m aj]=some (.dat (vZ (nH m aj))):=by
 obtain⟨tl,tn⟩:=d9 hm;have y:=λn k=>d8 (ci:=cw) U hW hI kN Df xB (n:=n) (k:=k) m aj hm h
 have qa:=λn k=>YL U (n:=n) (k:=k) m hm
 have i0:n6 (W m aj) (.int 0)=some (.int m):=rfl;have w:=gI (rn:=rn (n+77)) (bor:=[]) (k:=k+7) (g:=[.dat (W m aj)]) (g1:=[.dat (W m aj)]) (kk:=2) (nn:=1) (j:=2) (it:=.call at' [(.ix (.slot 0) (.val (.int 0)))]) (e:=.call le [(.slot 0),(.slot 2)]) (turnsOf m) (λt=>~~~t) (λt=>W m (tw t aj)) (by simp! [U,dg,i0,hAt,aE (fx:=YK) rfl,qa]) rfl ⋯ ⋯ ⋯ (au _ ⋯) λt ht G' hG=>by
  have h0:G'[0]?=some (.dat (W m aj)):=hG.1 0 ⋯;have q:=λn k=>Im U VN (n:=n) (k:=k) m aj t h (tl t ht)
  simp! [U,h0,hG.2,hLe,aM (fx:=yU to) rfl,q]
 have mn:jd .min [.lst ((turnsOf m).map λt=>W m (tw t aj))]=some (.dat (vZ (nH m aj))):=by
  have e0:((turnsOf m).map λt=>W m (tw t aj))=((turnsOf m).map λt=>tw t aj).map λx=>W m x:=by rw[List.map_map];rfl
  have e1:=xq m ((turnsOf m).map λt=>tw t aj) λx hx=>by
   obtain⟨t,ht,rfl⟩:=fA.mp hx;exact (h.turn (tl t ht)).ne
  rw[e0];unfold nH;have e2:((turnsOf m).map λt=>tw t aj).map (λx=>[(m:Int)]::x)=(turnsOf m).map λt=>[(m:Int)]::tw t aj:=by rw[List.map_map];rfl
  rw[e2]at e1;have eY:turnsOf m≠[]:=λz=>by
   have:=fV (kT m);rw[z]at this;cases this
  revert e1 eY;cases turnsOf m with
  |nil=>intro _ eY;exact absurd rfl eY
  |cons t l=>
   intro e1 _;have e3:=Dr m (tw t aj) (l.map λt=>tw t aj)
   have e4:=Ds m (tw t aj) (l.map λt=>tw t aj)
   simp only[List.map_cons]at e1 e3 e4 ⊢
   simp only[jd,DR,bF,e3,e4,e1]
 unfold aU xm;simp! [U,z9,aE (fx:=bW iw cw) rfl,y,w,mn]
end
section
variable{k n:Nat}{rn:Nat->Rn}{fns:List Fx}(U:ju fns rn)
include U
theorem U5{pl po:Nat}{VR:Fx}(hP:fns[pl]?=some VR)(ZT:VR.np=2)(hO:fns[po]?=some Jc){j:Nat}{t:List Int}(K:Kd j t)(q:aU (rn (n+28)) k VR [.int j,~~~t]=some (.dat (~~~(dD t)))):aU (rn (n+30)) (k+1) (Jg pl po) [.int j,~~~t]=some (.dat (.int (Jh t))):=by
 have hl:=K.cl;rw[<- Dq]at hl;have q2:=λn k=>UT U (n:=n) (k:=k) 2 (dD t).length ⟨by decide,by decide⟩ ⋯
 have w:=gI (rn:=rn (n+26)) (bor:=[]) (k:=k+1) (g:=[.dat (.int j),.dat (~~~t),.dat (~~~(dD t))]) (g1:=[.dat (.int j),.dat (~~~t),.dat (~~~(dD t))]) (kk:=2) (nn:=3) (j:=4) (it:=.slot 2) (e:=.cmp .Eq (.bin .Mod (.slot 4) (.val (.int 2))) (.val (.int 1))) (dD t) .int (λl=>.bl (decide (l % 2=1))) (by simp! [U,dg]) rfl ⋯ ⋯ ⋯ (au _ ⋯) λx hx G' hG=>by
  have o:=ji x 2 ⋯;simp! [U,hG.2,o]
 have e1:(dD t).map (λl=>D.bl (decide (l % 2=1)))=((dD t).map λl=>decide (l % 2=1)).map .bl:=by rw[List.map_map];rfl
 rw[e1]at w;have b:=Ub ((dD t).map λl=>decide (l % 2=1))
 unfold Jh;generalize ((dD t).map λl=>decide (l % 2=1))=L at w b
 cases hc:L.any id with
 |true=>rw[hc]at b;unfold aU Jg;simp! [U,hP,aM ZT,q,w,b]
 |false=>rw[hc]at b;unfold aU Jg;simp! [U,hP,aM ZT,q,w,b,hO,aM (fx:=Jc) rfl,q2]
end
end Ev
namespace bL
open Ev
noncomputable def x0:Fx:=⟨1,1,[(.ret (.and [(.pL (.slot 0) "int"),(.not (.pL (.slot 0) "bool"))]))]⟩
noncomputable def x1:Fx:=⟨3,3,[(.ret (.and [(.call 0 [(.slot 0)]),(.chain (.slot 1) [.LtE,.LtE] [(.slot 0),(.slot 2)])]))]⟩
noncomputable def x2:Fx:=⟨3,3,[(.ite (.not (.call 1 [(.slot 0),(.slot 1),(.slot 2)])) [.stuck] [])]⟩
def x3:Fx:=⟨2,4,[(.set 2 (.val (.int 1))),(.loop (.nm 3) (.cM (.slot 1)) [(.aug 2 .Mult (.slot 0))]),(.ret (.slot 2))]⟩
def x4:Fx:=⟨2,2,[(.expr (.call 2 [(.slot 0),(.val (.int 1)),(.val (.int 9))])),(.ite (.not (.pL (.slot 1) "tuple")) [(.ret (.val (.bl false)))] []),(.ite (.not (.blt .all [(.comp 2 2 (.nm 3) (.slot 1) none (.and [(.call 0 [(.slot 3)]),(.cmp .GtE (.slot 3) (.val (.int 1)))]))])) [(.ret (.val (.bl false)))] []),(.ret (.and [(.cmp .Eq (.blt .sum [(.slot 1)]) (.slot 0)),(.call 5 [(.slot 1)])]))]⟩
def x5:Fx:=⟨1,1,[(.ret (.blt .all [(.comp 1 2 (.nm 2) (.cO (.val (.int 1)) (.blt .len [(.slot 0)])) none (.cmp .GtE (.ix (.slot 0) (.bin .Sub (.slot 2) (.val (.int 1)))) (.ix (.slot 0) (.slot 2))))]))]⟩
noncomputable def x6:Fx:=⟨2,2,[(.ite (.not (.call 4 [(.slot 0),(.slot 1)])) [.stuck] [])]⟩
noncomputable def x7:Fx:=⟨1,1,[(.expr (.call 2 [(.slot 0),(.val (.int 1)),(.val (.int 9))])),(.ret (.call 8 [(.slot 0),(.slot 0)]))]⟩
def x8:Fx:=⟨2,5,[(.ite (.cmp .Eq (.slot 0) (.val (.int 0))) [(.ret (.lst [(.tup [])]))] []),(.set 2 (.lst [])),(.loop (.nm 3) (.cO (.val (.int 1)) (.bin .Add (.blt .min [(.slot 0),(.slot 1)]) (.val (.int 1)))) [(.loop (.nm 4) (.call 8 [(.bin .Sub (.slot 0) (.slot 3)),(.slot 3)]) [(.expr (.append 2 (.bin .Add (.tup [(.slot 3)]) (.slot 4))))])]),(.ret (.slot 2))]⟩
def x9:Fx:=⟨2,5,[(.expr (.call 6 [(.slot 0),(.slot 1)])),(.set 2 (.val (.int 1))),(.loop (.tp [3,4]) (.enum (.slot 1)) [(.aug 2 .Mult (.bin .Mult (.slot 4) (.meth .count (.slice (.slot 1) none (some (.bin .Add (.slot 3) (.val (.int 1))))) (.slot 4))))]),(.ret (.bin .FloorDiv (.call 10 [(.slot 0)]) (.slot 2)))]⟩
def x10:Fx:=⟨1,3,[(.set 1 (.val (.int 1))),(.loop (.nm 2) (.cO (.val (.int 1)) (.bin .Add (.slot 0) (.val (.int 1)))) [(.aug 1 .Mult (.slot 2))]),(.ret (.slot 1))]⟩
def x11:Fx:=⟨1,3,[(.ite (.or [(.not (.pL (.slot 0) "tuple")),(.cmp .NotEq (.blt .len [(.slot 0)]) (.val (.int 2)))]) [(.ret (.val (.bl false)))] []),(.tgt (.tp [1,2]) (.slot 0)),(.ite (.or [(.not (.call 1 [(.slot 1),(.val (.int 1)),(.val (.int 6))])),(.not (.pL (.slot 2) "tuple"))]) [(.ret (.val (.bl false)))] []),(.ret (.and [(.blt .all [(.comp 3 2 (.nm 4) (.slot 2) none (.call 12 [(.slot 1),(.slot 4)]))]),(.call 13 [(.slot 2)])]))]⟩
def x12:Fx:=⟨2,2,[(.ite (.or [(.not (.pL (.slot 1) "tuple")),(.cmp .NotEq (.blt .len [(.slot 1)]) (.val (.int 2)))]) [(.ret (.val (.bl false)))] []),(.ret (.and [(.blt .all [(.comp 2 2 (.nm 3) (.slot 1) none (.call 1 [(.slot 3),(.val (.int 0)),(.bin .Sub (.slot 0) (.val (.int 1)))]))]),(.cmp .Lt (.ix (.slot 1) (.val (.int 0))) (.ix (.slot 1) (.val (.int 1))))]))]⟩
def x13:Fx:=⟨1,1,[(.ret (.blt .all [(.comp 1 2 (.nm 2) (.cO (.val (.int 1)) (.blt .len [(.slot 0)])) none (.cmp .Lt (.ix (.slot 0) (.bin .Sub (.slot 2) (.val (.int 1)))) (.ix (.slot 0) (.slot 2))))]))]⟩
def x14:Fx:=⟨1,1,[(.ite (.not (.call 11 [(.slot 0)])) [.stuck] [])]⟩
def x15:Fx:=⟨2,2,[(.expr (.call 2 [(.slot 0),(.val (.int 1)),(.val (.int 6))])),(.ite (.or [(.not (.pL (.slot 1) "tuple")),(.not (.blt .all [(.comp 2 2 (.nm 3) (.slot 1) none (.call 0 [(.slot 3)]))]))]) [(.ret (.val (.bl false)))] []),(.ret (.cmp .Eq (.blt .sorted [(.slot 1)]) (.cU (.slot 0))))]⟩
noncomputable def x16:Fx:=⟨2,2,[(.ite (.not (.call 15 [(.slot 0),(.slot 1)])) [.stuck] [])]⟩
def x17:Fx:=⟨2,2,[(.expr (.call 14 [(.slot 0)])),(.expr (.call 16 [(.ix (.slot 0) (.val (.int 0))),(.slot 1)])),(.ret (.call 18 [(.slot 0),(.slot 1)]))]⟩
def x18:Fx:=⟨2,4,[(.tgt (.tp [2,3]) (.slot 0)),(.ret (.tup [(.slot 2),(.blt .tuple [(.blt .sorted [(.comp 4 3 (.tp [5,6]) (.slot 3) none (.call 19 [(.ix (.slot 1) (.slot 5)),(.ix (.slot 1) (.slot 6))]))])])]))]⟩
noncomputable def x19:Fx:=⟨2,2,[(.ret (.ite (.cmp .Lt (.slot 0) (.slot 1)) (.tup [(.slot 0),(.slot 1)]) (.tup [(.slot 1),(.slot 0)])))]⟩
def x20:Fx:=⟨1,1,[(.ret (.bN 1 3 (.nm 2) (.cM (.slot 0)) none (.nm 3) (.cO (.bin .Add (.slot 2) (.val (.int 1))) (.slot 0)) none (.tup [(.slot 2),(.slot 3)])))]⟩
def x21:Fx:=⟨2,5,[(.rows 0 1 2 3 4)]⟩
noncomputable def x22:Fx:=⟨3,3,[(.expr (.call 16 [(.slot 0),(.slot 1)])),(.expr (.call 16 [(.slot 0),(.slot 2)])),(.ret (.blt .tuple [(.comp 3 2 (.nm 4) (.slot 1) none (.ix (.slot 2) (.slot 4)))]))]⟩
noncomputable def x23:Fx:=⟨2,3,[(.setC 2 (.comp 3 2 (.nm 4) (.slot 1) none (.call 24 [(.slot 0),(.slot 4)]))),(.ret (.comp 3 2 (.nm 4) (.slot 2) (some (.cmp .Eq (.ix (.slot 4) (.val (.int 0))) (.blt .min [(.slot 4)]))) (.slot 4)))]⟩
noncomputable def x24:Fx:=⟨2,3,[(.set 2 (.lst [(.slot 1)])),(.while (.cmp .NotEq (.ix (.slot 0) (.ix (.slot 2) (.neg (.val (.int 1))))) (.slot 1)) [(.expr (.append 2 (.ix (.slot 0) (.ix (.slot 2) (.neg (.val (.int 1)))))))]),(.ret (.blt .tuple [(.slot 2)]))]⟩
def x25:Fx:=⟨2,3,[(.expr (.call 14 [(.slot 0)])),(.expr (.call 14 [(.slot 1)])),(.ite (.cmp .NotEq (.ix (.slot 0) (.val (.int 0))) (.ix (.slot 1) (.val (.int 0)))) [(.ret (.val .non))] []),(.set 2 (.call 27 [(.slot 0),(.slot 1)])),(.ret (.ite (.slot 2) (.ix (.slot 2) (.val (.int 0))) (.val .non)))]⟩
noncomputable def x26:Fx:=⟨1,1,[(.expr (.call 14 [(.slot 0)])),(.ret (.call 27 [(.slot 0),(.slot 0)]))]⟩
def x27:Fx:=⟨2,7,[(.set 2 (.ix (.slot 0) (.val (.int 0)))),(.set 3 (.call 21 [(.slot 2),(.ix (.slot 0) (.val (.int 1)))])),(.set 4 (.call 21 [(.slot 2),(.ix (.slot 1) (.val (.int 1)))])),(.set 5 (.lst [(.tup [])])),(.loop (.nm 6) (.cM (.slot 2)) [(.setC 5 (.bN 7 3 (.nm 8) (.slot 5) none (.nm 9) (.cM (.slot 2)) (some (.and [(.cmp .NotIn (.slot 9) (.slot 8)),(.call 28 [(.slot 8),(.ix (.slot 3) (.slot 6)),(.ix (.slot 4) (.slot 9))])])) (.bin .Add (.slot 8) (.tup [(.slot 9)]))))]),(.ret (.slot 5))]⟩
noncomputable def x28:Fx:=⟨3,3,[(.ite (.cmp .NotEq (.blt .len [(.slot 1)]) (.blt .len [(.slot 2)])) [(.ret (.val (.bl false)))] []),(.ret (.blt .all [(.comp 3 3 (.tp [4,5]) (.enum (.slot 0)) none (.cmp .Eq (.cmp .In (.slot 4) (.slot 1)) (.cmp .In (.slot 5) (.slot 2))))]))]⟩
def x29:Fx:=⟨1,3,[(.set 1 (.lst [(.tup [])])),(.loop (.nm 2) (.cM (.slot 0)) [(.setC 1 (.bN 3 3 (.nm 4) (.slot 1) none (.nm 5) (.cM (.slot 0)) (some (.cmp .NotIn (.slot 5) (.slot 4))) (.bin .Add (.slot 4) (.tup [(.slot 5)]))))]),(.ret (.slot 1))]⟩
def x30:Fx:=⟨1,1,[(.expr (.call 14 [(.slot 0)])),(.ret (.blt .min [(.comp 1 2 (.nm 2) (.call 29 [(.ix (.slot 0) (.val (.int 0)))]) none (.call 18 [(.slot 0),(.slot 2)]))]))]⟩
def x31:Fx:=⟨1,2,[(.set 1 (.call 20 [(.blt .len [(.slot 0)])])),(.ret (.call 23 [(.iF 2 3 (.tp [3,4]) (.slot 1) [(.slot 3),(.slot 4)] (.call 19 [(.ix (.slot 0) (.slot 3)),(.ix (.slot 0) (.slot 4))])),(.slot 1)]))]⟩
def x32:Fx:=⟨2,2,[(.expr (.call 6 [(.slot 0),(.slot 1)])),(.ret (.blt .tuple [(.iG (.comp 2 2 (.nm 3) (.call 31 [(.call 33 [(.slot 1)])]) none (.blt .len [(.slot 3)])))]))]⟩
def x33:Fx:=⟨1,4,[(.set 1 (.lst [])),(.loop (.nm 2) (.slot 0) [(.set 3 (.blt .len [(.slot 1)])),(.aug 1 .Add (.fU (.bin .Add (.slot 3) (.val (.int 1))) (.bin .Add (.slot 3) (.slot 2)))),(.expr (.append 1 (.slot 3)))]),(.ret (.blt .tuple [(.slot 1)]))]⟩
def x34:Fx:=⟨1,3,[(.expr (.call 14 [(.slot 0)])),(.tgt (.tp [1,2]) (.slot 0)),(.ret (.tup [(.slot 1),(.blt .tuple [(.comp 3 2 (.nm 4) (.call 20 [(.slot 1)]) (some (.cmp .NotIn (.slot 4) (.slot 2))) (.slot 4))])]))]⟩
noncomputable def x35:Fx:=⟨1,1,[(.ret (.call 25 [(.slot 0),(.call 34 [(.slot 0)])]))]⟩
def x36:Fx:=⟨1,2,[(.setC 1 (.comp 2 2 (.nm 3) (.call 7 [(.slot 0)]) none (.bin .Mult (.call 9 [(.slot 0),(.slot 3)]) (.call 37 [(.slot 0),(.slot 3)])))),(.ret (.bin .FloorDiv (.blt .sum [(.slot 1)]) (.call 10 [(.slot 0)])))]⟩
def x37:Fx:=⟨2,3,[(.set 2 (.call 32 [(.slot 0),(.slot 1)])),(.ite (.blt .any [(.comp 3 2 (.nm 4) (.slot 2) none (.cmp .Eq (.bin .Mod (.slot 4) (.val (.int 2))) (.val (.int 1))))]) [(.ret (.val (.int 0)))] []),(.ret (.call 3 [(.val (.int 2)),(.blt .len [(.slot 2)])]))]⟩
def P1:Fx:=⟨1,4,[(.expr (.call 2 [(.slot 0),(.val (.int 1)),(.val (.int 5))])),(.set 1 (.lst [(.tup [(.slot 0),(.tup [])])])),(.loop (.nm 2) (.call 20 [(.slot 0)]) [(.setC 3 (.comp 4 2 (.nm 5) (.slot 1) none (.tup [(.slot 0),(.bin .Add (.ix (.slot 5) (.val (.int 1))) (.tup [(.slot 2)]))]))),(.set 1 (.bin .Add (.slot 1) (.comp 4 2 (.nm 5) (.slot 3) (some (.cmp .Eq (.call 30 [(.slot 5)]) (.slot 5))) (.slot 5))))]),(.ret (.blt .sorted [(.slot 1)]))]⟩
def x39:Fx:=⟨2,2,[(.ite (.cmp .Lt (.slot 1) (.blt .len [(.slot 0)])) [(.ret (.ix (.slot 0) (.slot 1)))] []),(.ret (.val (.int 0)))]⟩
def x40:Fx:=⟨2,3,[(.set 2 (.call 39 [(.slot 0),(.slot 1)])),(.ite (.cmp .GtE (.slot 2) (.bin .Pow (.val (.int 10)) (.val (.int 18)))) [(.ret (.lst [(.bin .Sub (.slot 2) (.bin .Pow (.val (.int 10)) (.val (.int 18)))),(.val (.bl true))]))] []),(.ret (.lst [(.bin .Mod (.slot 2) (.val (.int 2147483647))),(.val (.bl false))]))]⟩
def x41:Fx:=⟨2,4,[(.ite (.ix (.slot 0) (.val (.int 1))) [(.set 2 (.bin .Mod (.ix (.slot 0) (.val (.int 0))) (.slot 1))),(.item 0 (.val (.int 0)) (.bin .FloorDiv (.ix (.slot 0) (.val (.int 0))) (.slot 1))),(.ret (.slot 2))] []),(.item 0 (.val (.int 0)) (.bin .Mod (.bin .Add (.bin .Mult (.ix (.slot 0) (.val (.int 0))) (.val (.int 48271))) (.val (.int 29))) (.val (.int 2147483647)))),(.set 3 (.bin .Mod (.bin .Add (.bin .Add (.bin .Mult (.ix (.slot 0) (.val (.int 0))) (.ix (.slot 0) (.val (.int 0)))) (.bin .Mult (.val (.int 39373)) (.ix (.slot 0) (.val (.int 0))))) (.val (.int 7))) (.val (.int 2147483629)))),(.set 3 (.bin .Mod (.bin .Add (.bin .Mult (.slot 3) (.slot 3)) (.bin .Mult (.val (.int 16807)) (.slot 3))) (.val (.int 2147483587)))),(.ret (.bin .Mod (.bin .FloorDiv (.slot 3) (.val (.int 8))) (.slot 1)))]⟩
def x42:Fx:=⟨1,3,[(.set 1 (.lst [])),(.loop (.nm 2) (.cM (.slot 0)) [(.expr (.extend 1 (.comp 3 2 (.nm 4) (.cO (.bin .Add (.slot 2) (.val (.int 1))) (.slot 0)) none (.tup [(.slot 2),(.slot 4)]))))]),(.ret (.slot 1))]⟩
def x43:Fx:=⟨2,4,[(.set 2 (.blt .list [(.slot 1)])),(.set 3 (.lst [])),(.while (.cmp .NotEq (.slot 2) (.lst [])) [(.expr (.append 3 (.gZ 2 (.call 41 [(.slot 0),(.blt .len [(.slot 2)])]))))]),(.ret (.slot 3))]⟩
def x44:Fx:=⟨2,8,[(.set 2 (.blt .max [(.val (.int 1)),(.bin .Sub (.slot 1) (.ix (.lst [(.val (.int 0)),(.val (.int 4)),(.val (.int 1)),(.val (.int 0)),(.val (.int 2)),(.val (.int 1)),(.val (.int 3)),(.slot 1)]) (.call 41 [(.slot 0),(.val (.int 8))])))])),(.set 3 (.call 41 [(.slot 0),(.val (.int 7))])),(.set 4 (.comp 8 2 (.nm 9) (.call 42 [(.slot 2)]) (some (.cmp .Lt (.call 41 [(.slot 0),(.val (.int 8))]) (.ix (.lst [(.val (.int 2)),(.val (.int 4)),(.val (.int 6))]) (.bin .Mod (.slot 3) (.val (.int 3)))))) (.slot 9))),(.set 5 (.call 43 [(.slot 0),(.cU (.slot 2))])),(.ite (.cmp .Gt (.slot 3) (.val (.int 2))) [(.set 4 (.lst [])),(.loop (.nm 6) (.cO (.val (.int 1)) (.slot 2)) [(.expr (.append 4 (.blt .tuple [(.blt .sorted [(.lst [(.ix (.slot 5) (.slot 6)),(.ix (.slot 5) (.ix (.lst [(.bin .Sub (.slot 6) (.val (.int 1))),(.bin .Sub (.slot 6) (.val (.int 1))),(.val (.int 0)),(.bin .FloorDiv (.slot 6) (.val (.int 2)))]) (.bin .Sub (.slot 3) (.val (.int 3)))))])])])))]),(.ite (.and [(.cmp .Eq (.slot 3) (.val (.int 4))),(.cmp .Gt (.slot 2) (.val (.int 2)))]) [(.expr (.append 4 (.blt .tuple [(.blt .sorted [(.lst [(.ix (.slot 5) (.val (.int 0))),(.ix (.slot 5) (.bin .Sub (.slot 2) (.val (.int 1))))])])])))] []),(.set 7 (.comp 8 2 (.nm 9) (.call 42 [(.slot 2)]) (some (.cmp .Eq (.call 41 [(.slot 0),(.val (.int 12))]) (.val (.int 0)))) (.slot 9))),(.set 4 (.comp 8 2 (.nm 9) (.call 42 [(.slot 2)]) (some (.cmp .NotEq (.cmp .In (.slot 9) (.slot 4)) (.cmp .In (.slot 9) (.slot 7)))) (.slot 9)))] []),(.ret (.tup [(.slot 2),(.blt .tuple [(.blt .sorted [(.slot 4)])])]))]⟩
def x45:Fx:=⟨2,5,[(.set 2 (.call 43 [(.slot 0),(.cU (.slot 1))])),(.ite (.cmp .Gt (.call 41 [(.slot 0),(.val (.int 3))]) (.val (.int 0))) [(.ret (.blt .tuple [(.slot 2)]))] []),(.set 3 (.cU (.slot 1))),(.loop (.nm 4) (.nP (.val (.int 0)) (.bin .Sub (.slot 1) (.val (.int 1))) (.val (.int 2))) [(.ite (.cmp .Eq (.call 41 [(.slot 0),(.val (.int 2))]) (.val (.int 1))) [(.items2 3 (.ix (.slot 2) (.slot 4)) 3 (.ix (.slot 2) (.bin .Add (.slot 4) (.val (.int 1)))) (.tup [(.ix (.slot 2) (.bin .Add (.slot 4) (.val (.int 1)))),(.ix (.slot 2) (.slot 4))]))] [])]),(.ret (.blt .tuple [(.slot 3)]))]⟩
def YM:Fx:=⟨2,4,[(.set 2 (.call 34 [(.slot 0)])),(.ite (.or [(.cmp .NotEq (.call 34 [(.slot 2)]) (.slot 0)),(.cmp .NotEq (.call 34 [(.call 17 [(.slot 0),(.slot 1)])]) (.call 17 [(.slot 2),(.slot 1)]))]) [(.ret (.val (.bl false)))] []),(.ite (.or [(.cmp .NotEq (.call 26 [(.slot 2)]) (.call 26 [(.slot 0)])),(.cmp .NotEq (.bin .Add (.blt .len [(.ix (.slot 0) (.val (.int 1)))]) (.blt .len [(.ix (.slot 2) (.val (.int 1)))])) (.bin .FloorDiv (.bin .Mult (.ix (.slot 0) (.val (.int 0))) (.bin .Sub (.ix (.slot 0) (.val (.int 0))) (.val (.int 1)))) (.val (.int 2))))]) [(.ret (.val (.bl false)))] []),(.set 3 (.call 35 [(.slot 0)])),(.ite (.cmp .Is (.slot 3) (.val .non)) [(.ret (.cmp .NotEq (.call 30 [(.slot 2)]) (.call 30 [(.slot 0)])))] []),(.ret (.and [(.cmp .Eq (.call 17 [(.slot 0),(.slot 3)]) (.slot 2)),(.cmp .In (.call 22 [(.ix (.slot 0) (.val (.int 0))),(.slot 3),(.slot 3)]) (.call 26 [(.slot 0)]))]))]⟩
def V0:Fx:=⟨1,6,[(.loop (.nm 1) (.cO (.val (.int 1)) (.val (.int 10))) [(.ite (.cmp .NotEq (.cmp .Eq (.call 36 [(.slot 1)]) (.val (.int 0))) (.cmp .Eq (.bin .Mod (.bin .FloorDiv (.bin .Mult (.slot 1) (.bin .Sub (.slot 1) (.val (.int 1)))) (.val (.int 2))) (.val (.int 2))) (.val (.int 1)))) [(.ret (.val (.bl false)))] [])]),(.loop (.nm 1) (.cO (.val (.int 1)) (.val (.int 5))) [(.setC 3 (.comp 6 2 (.nm 7) (.call 38 [(.slot 1)]) (some (.cmp .IsNot (.call 35 [(.slot 7)]) (.val .non))) (.slot 7))),(.ite (.cmp .NotEq (.blt .len [(.slot 3)]) (.call 36 [(.slot 1)])) [(.ret (.val (.bl false)))] [])]),(.loop (.nm 4) (.cM (.blt .max [(.val (.int 1)),(.blt .min [(.blt .len [(.slot 0)]),(.val (.int 3))])])) [(.set 5 (.call 40 [(.slot 0),(.slot 4)])),(.set 2 (.call 44 [(.slot 5),(.val (.int 6))])),(.ite (.not (.call 46 [(.slot 2),(.call 45 [(.slot 5),(.ix (.slot 2) (.val (.int 0)))])])) [(.ret (.val (.bl false)))] [])]),(.ret (.val (.bl true)))]⟩
def fns:List Fx:=[x0,x1,x2,x3,x4,x5,x6,x7,x8,x9,x10,x11,x12,x13,x14,x15,x16,x17,x18,x19,x20,x21,x22,x23,x24,x25,x26,x27,x28,x29,x30,x31,x32,x33,x34,x35,x36,x37,P1,x39,x40,x41,x42,x43,x44,x45,YM,V0]
theorem c0:fns[0]?=some bI:=rfl
theorem c1:fns[1]?=some (bD 0):=rfl
theorem c2:fns[2]?=some (cz 1 0):=rfl
theorem c3:fns[3]?=some Jc:=rfl
theorem c4:fns[4]?=some (cY 2 0 5):=rfl
theorem c5:fns[5]?=some jA:=rfl
theorem c6:fns[6]?=some (d7 4 1):=rfl
theorem c7:fns[7]?=some x7:=rfl
theorem c9:fns[9]?=some (N4 6 10):=rfl
theorem c10:fns[10]?=some y9:=rfl
theorem YQ:fns[11]?=some (iR 1 12 13):=rfl
theorem c12:fns[12]?=some (iQ 1):=rfl
theorem YS:fns[13]?=some wO:=rfl
theorem YT:fns[14]?=some (bW 11 2):=rfl
theorem c15:fns[15]?=some (cP 2 0):=rfl
theorem c16:fns[16]?=some (cQ 15 3):=rfl
theorem c17:fns[17]?=some (jm 14 16 18):=rfl
theorem c18:fns[18]?=some (yU 19):=rfl
theorem c19:fns[19]?=some Dl:=rfl
theorem c20:fns[20]?=some yZ:=rfl
theorem c21:fns[21]?=some qx:=rfl
theorem c22:fns[22]?=some (kU 16):=rfl
theorem c23:fns[23]?=some (jV 24):=rfl
theorem c24:fns[24]?=some jU:=rfl
theorem c25:fns[25]?=some (qB 14 27):=rfl
theorem c26:fns[26]?=some (wV 14 27):=rfl
theorem c27:fns[27]?=some (eO 21 28):=rfl
theorem c28:fns[28]?=some qy:=rfl
theorem c29:fns[29]?=some YK:=rfl
theorem c30:fns[30]?=some (xm 14 29 18):=rfl
theorem c31:fns[31]?=some (Dm 20 23 19):=rfl
theorem c32:fns[32]?=some (Ah 6 31 33):=rfl
theorem c33:fns[33]?=some YG:=rfl
theorem c34:fns[34]?=some (xg 14 20):=rfl
theorem c35:fns[35]?=some (sL 25 34):=rfl
theorem c36:fns[36]?=some (PN 7 9 37 10):=rfl
theorem c37:fns[37]?=some (Jg 32 3):=rfl
theorem c38:fns[38]?=some P1:=rfl
theorem c39:fns[39]?=some qm:=rfl
theorem c40:fns[40]?=some (qq 39):=rfl
theorem c41:fns[41]?=some cW:=rfl
theorem c42:fns[42]?=some gk:=rfl
theorem c43:fns[43]?=some (nQ 41):=rfl
theorem c44:fns[44]?=some (Di 41 42 43):=rfl
theorem c45:fns[45]?=some (nB 41 43):=rfl
theorem c46:fns[46]?=some YM:=rfl
theorem d19:fns[19]?=some mF:=rfl
end bL
namespace bL
open Ev
section
variable{k n:Nat}{rn:Nat->Rn}(U:ju fns rn)
include U
theorem q34(m:Nat)(hm:1<=m/\m<=6)(aj:List (List Int))(h:Wb m aj):aU (rn (n+80)) (k+7) (xg 14 20) [W m aj]=some (.dat (W m (dN m aj))):=Ji U c0 c1 c12 YS YQ YT c20 m hm aj h
theorem q35(m:Nat)(hm:1<=m/\m<=6)(aj:List (List Int))(h:Wb m aj):aU (rn (n+95)) (k+9) (sL 25 34) [W m aj]=some (.dat (YD (led m aj m (dN m aj)))):=N7 U c0 c1 c12 YS YQ YT c20 c21 c28 c27 c25 c34 m hm aj h
theorem q30(m:Nat)(hm:1<=m/\m<=6)(aj:List (List Int))(h:Wb m aj):aU (rn (n+80)) (k+7) (xm 14 29 18) [W m aj]=some (.dat (vZ (nH m aj))):=N8 U c0 c1 c12 YS YQ YT d19 c18 c29 m hm aj h
theorem q26(m:Nat)(hm:1<=m/\m<=6)(aj:List (List Int))(h:Wb m aj):aU (rn (n+90)) (k+8) (wV 14 27) [W m aj]=some (.new ((led m aj m aj).map λr=>~~~r)):=Uw U c0 c1 c12 YS YQ YT c21 c28 c27 m hm aj h
theorem q17(m:Nat)(aj:List (List Int))(t:List Int)(hm:1<=m/\m<=6)(h:Wb m aj)(ht:Tn m t):aU (rn (n+90)) (k+8) (jm 14 16 18) [W m aj,~~~t]=some (.dat (W m (tw t aj))):=Dg U d19 c0 c1 c2 c15 c16 c12 YS YQ YT c18 m aj t hm h ht
theorem q22(m:Nat)(a b:List Int)(hm:1<=m/\m<=6)(ha:Tn m a)(hb:Tn m b):aU (rn (n+60)) (k+6) (kU 16) [.int m,~~~a,~~~b]=some (.dat (~~~(a.map (gt b)))):=De U c0 c1 c2 c15 c16 m a b hm ha hb
omit U in
theorem U6(m:Nat)(a b:List (List Int)):eU .Eq (W m a) (W m b)=some (decide (a=b)):=by
 show (if kI (W m a) (W m b)=true then some (cD (W m a) (W m b))else none)=_
 rw[eP (Ih m m _ _),Pz]
omit U in
theorem N9(a b:List (List Int)):eU .NotEq (.lst (a.map λx=>~~~x)) (.lst (b.map λx=>~~~x))=some (!decide (a=b)):=by
 have h1:=jl a;have:kI (.lst (a.map λx=>~~~x)) (.lst (b.map λx=>~~~x))=true:=by simp only[kI,gF,jk,dep,c8,b8,true_and];lia
 simp only[eU,this,u7,cD,mD]
omit U in
theorem mulM(m:Nat)(hm:1<=m/\m<=6):qR .Mult (.int m) (.int ((m:Int) - 1))=some (.dat (.int ((m:Int) * ((m:Int) - 1)))):=fu _ _ (.inl ⟨by lia,by lia⟩)
theorem s3o(M a b:Int)(w o t:D)(l la lb:List D)(i0:n6 w (.int 0)=some (.int M))(i1:n6 w (.int 1)=some (.tup la))(i2:n6 o (.int 1)=some (.tup lb))(b1:jd .len [.tup la]=some (.dat (.int a)))(b2:jd .len [.tup lb]=some (.dat (.int b)))(p6:∀n k,aU (rn (n+90)) (k+8) (wV 14 27) [o]=some (.new l))(p7:∀n k,aU (rn (n+90)) (k+8) (wV 14 27) [w]=some (.new l))(n3:eU .NotEq (.lst l) (.lst l)=some (!true))(mu:qR .Mult (.int M) (.int (M - 1))=some (.dat (.int (M * (M - 1)))))(dv:qR .FloorDiv (.int (M * (M - 1))) (.int 2)=some (.dat (.int (a+b)))):aR (rn (n+119)) [] (k+12) (.ite (.or [(.cmp .NotEq (.call 26 [(.slot 2)]) (.call 26 [(.slot 0)])),(.cmp .NotEq (.bin .Add (.blt .len [(.ix (.slot 0) (.val (.int 1)))]) (.blt .len [(.ix (.slot 2) (.val (.int 1)))])) (.bin .FloorDiv (.bin .Mult (.ix (.slot 0) (.val (.int 0))) (.bin .Sub (.ix (.slot 0) (.val (.int 0))) (.val (.int 1)))) (.val (.int 2))))]) [(.ret (.val (.bl false)))] []) [.dat w,.dat t,.dat o,.no]=some (.nx,[.dat w,.dat t,.dat o,.no]):=by simp! [U,c26,aE (fx:=wV 14 27) rfl,p6,p7,n3,i0,i1,i2,b1,b2,mu,dv]
theorem YW(m:Nat)(hm:1<=m/\m<=6)(aj:List (List Int))(h:Wb m aj)(t:List Int)(ht:Tn m t):aU (rn (n+120)) (k+12) YM [W m aj,~~~t]=some (.dat (.bl true)):=by
 have ho:=qD hm aj;have i0:n6 (W m aj) (.int 0)=some (.int m):=rfl;have i1:n6 (W m aj) (.int 1)=some (.tup (aj.map λx=>~~~x)):=rfl
 have i2:n6 (W m (dN m aj)) (.int 1)=some (.tup ((dN m aj).map λx=>~~~x)):=rfl
 have p1:=λn k=>q34 U (n:=n) (k:=k) m hm aj h
 have p2:=λn k=>q34 U (n:=n) (k:=k) m hm (dN m aj) ho
 have p3:=λn k=>q17 U (n:=n) (k:=k) m aj t hm h ht
 have p4:=λn k=>q34 U (n:=n) (k:=k) m hm (tw t aj) (h.turn ht)
 have p5:=λn k=>q17 U (n:=n) (k:=k) m (dN m aj) t hm ho ht
 rw[kZ hm h]at p2;rw[yX hm h ht]at p4;have n1:=yS m aj aj;have n2:=yS m (tw t (dN m aj)) (tw t (dN m aj));rw[lL rfl]at n1 n2;have s1:aR (rn (n+119)) [] (k+12) (.set 2 (.call 34 [(.slot 0)])) [.dat (W m aj),.dat (~~~t),.no,.no]=some (.nx,[.dat (W m aj),.dat (~~~t),.dat (W m (dN m aj)),.no]):=by simp! [U,c34,aE (fx:=xg 14 20) rfl,p1]
 have s2:aR (rn (n+119)) [] (k+12) (.ite (.or [(.cmp .NotEq (.call 34 [(.slot 2)]) (.slot 0)),(.cmp .NotEq (.call 34 [(.call 17 [(.slot 0),(.slot 1)])]) (.call 17 [(.slot 2),(.slot 1)]))]) [(.ret (.val (.bl false)))] []) [.dat (W m aj),.dat (~~~t),.dat (W m (dN m aj)),.no]=some (.nx,[.dat (W m aj),.dat (~~~t),.dat (W m (dN m aj)),.no]):=by simp! [U,c34,aE (fx:=xg 14 20) rfl,p2,c17,aM (fx:=jm 14 16 18) rfl,p3,p4,p5,n1,n2]
 have p6:=λn k=>q26 U (n:=n) (k:=k) m hm (dN m aj) ho
 have p7:=λn k=>q26 U (n:=n) (k:=k) m hm aj h
 rw[NZ hm h]at p6;have n3:=N9 (led m aj m aj) (led m aj m aj);rw[lL rfl]at n3;have aJ:=N2 hm h;have s3:aR (rn (n+119)) [] (k+12) (.ite (.or [(.cmp .NotEq (.call 26 [(.slot 2)]) (.call 26 [(.slot 0)])),(.cmp .NotEq (.bin .Add (.blt .len [(.ix (.slot 0) (.val (.int 1)))]) (.blt .len [(.ix (.slot 2) (.val (.int 1)))])) (.bin .FloorDiv (.bin .Mult (.ix (.slot 0) (.val (.int 0))) (.bin .Sub (.ix (.slot 0) (.val (.int 0))) (.val (.int 1)))) (.val (.int 2))))]) [(.ret (.val (.bl false)))] []) [.dat (W m aj),.dat (~~~t),.dat (W m (dN m aj)),.no]=some (.nx,[.dat (W m aj),.dat (~~~t),.dat (W m (dN m aj)),.no]):=by
  have mu:=mulM m hm;have dv:=gU ((m:Int) * ((m:Int) - 1)) 2 ⋯;have eN:(m:Int) * ((m:Int) - 1) / 2=(aj.length:Int)+(dN m aj).length:=by
   rw[show (m:Int) - 1=((m - 1:Nat):Int)by lia]
   have:((m * (m - 1) / 2:Nat):Int)=(aj.length:Int)+(dN m aj).length:=by rw[<- aJ];rfl
   rw[<- this];rfl
  rw[eN]at dv;exact s3o U (m:Int) (aj.length:Int) ((dN m aj).length:Int) _ _ _ _ _ _ i0 i1 i2 (by rw[qi,dC]) (by rw[qi,dC]) p6 p7 n3 mu dv
 have p8:=λn k=>q35 U (n:=n) (k:=k) m hm aj h
 have s4:aR (rn (n+119)) [] (k+12) (.set 3 (.call 35 [(.slot 0)])) [.dat (W m aj),.dat (~~~t),.dat (W m (dN m aj)),.no]=some (.nx,[.dat (W m aj),.dat (~~~t),.dat (W m (dN m aj)),.dat (YD (led m aj m (dN m aj)))]):=by simp! [U,c35,aE (fx:=sL 25 34) rfl,p8]
 have pf1:=λn k=>q30 U (n:=n) (k:=k) m hm aj h
 have pf2:=λn k=>q30 U (n:=n) (k:=k) m hm (dN m aj) ho
 have is1:eU .Is .non .non=some true:=rfl;unfold aU YM;show (match (rn (n+120)).b [] (k+12) _ [.dat (W m aj),.dat (~~~t),.no,.no]with |some (.rt r,gc)=>gR [] gc r |some (.nx,_)=>some (.dat .non) |_=>none)=_
 rw[U.b,aL s1,aL s2,aL s3,aL s4];cases YX:led m aj m (dN m aj)with
 |nil=>
  have nf:eU .NotEq (vZ (nH m (dN m aj))) (vZ (nH m aj))=some true:=by
   have eY:turnsOf m≠[]:=λz=>by
    have:=fV (kT m);rw[z]at this;cases this
   obtain⟨u,hu,e1⟩:=sM (aj:=dN m aj) eY;obtain⟨v,hv,e2⟩:=sM (aj:=aj) eY;rw[e1,e2];show eU .NotEq (W m (tw u (dN m aj))) (W m (tw v aj))=_;rw[yS,l6 λz=>by
    obtain⟨x,hx,_⟩:=UL h ho ((d9 hm).1 v hv) ((d9 hm).1 u hu) z.symm;rw[YX]at hx;cases hx]
   rfl
  show (match g6 _ _ _ _ [_,_,_,.dat .non]with |some (.rt r,gc)=>gR [] gc r |some (.nx,_)=>some (.dat .non) |_=>none)=_
  simp! [U,c30,aE (fx:=xm 14 29 18) rfl,pf1,pf2,nf,is1]
 |cons u l=>
  have hu:u∈led m aj m (dN m aj):=by rw[YX];exact bP
  unfold led at hu;rw[i7,b8]at hu;obtain⟨hu1,_,hu2⟩:=hu;have tu:=(d9 hm).1 u hu1;have p9:=λn k=>q17 U (n:=n) (k:=k) m aj u hm h tu
  rw[hu2]at p9;have p10:=λn k=>q22 U (n:=n) (k:=k) m u u hm tu tu
  have is2:eU .Is (~~~u) .non=some false:=rfl;have eW:=U6 m (dN m aj) (dN m aj);rw[lL rfl]at eW;have hin:eU .In (~~~(u.map (gt u))) (.lst ((led m aj m aj).map λr=>~~~r))=some true:=by
   rw[IK,kX]
   congr 1
   rw[b8];unfold led;rw[i7];refine⟨fV (tu.then tu),?_⟩
   rw[b8];refine⟨rfl,?_⟩;rw[<- Ik h tu tu,hu2,<- yX hm h tu,hu2,kZ hm h]
  show (match g6 _ _ _ _ [_,_,_,.dat (~~~u)]with |some (.rt r,gc)=>gR [] gc r |some (.nx,_)=>some (.dat .non) |_=>none)=_
  simp! [U,c17,aM (fx:=jm 14 16 18) rfl,p9,eW,c22,bh (fx:=kU 16) rfl,p10,c26,aE (fx:=wV 14 27) rfl,p7,hin,i0,is2]
end
end bL
namespace bL
open Ev
def Oa(j:Nat):Int:=wmV Jh j
def nn(j:Nat):Nat:=j * (j - 1) / 2
def ZW(j:Nat):Bool:=decide ((kinds j).length<=30)&&(decide (Oa j=0)==decide ((nn j:Int) % 2=1))
section
variable{k n:Nat}{rn:Nat->Rn}(U:ju fns rn)
variable(P0:∀j:Nat,1<=j/\j<=9->(∀p∈prs j,∃a b:Int,p=[a,b]/\0<=a/\a<j/\0<=b/\b<j)/\(prs j).Nodup/\(prs j).length<=36)
include U
theorem q9{j:Nat}{t:List Int}(K:Kd j t):aU (rn (n+60)) (k+6) (N4 6 10) [.int j,~~~t]=some (.dat (.int (cnt j t))):=U1 U c0 c5 c1 c2 c4 c6 c10 K
include P0
theorem q32{j:Nat}{t:List Int}(K:Kd j t):aU (rn (n+80)) (k+10) (Ah 6 31 33) [.int j,~~~t]=some (.dat (~~~(dD t))):=N5 U c0 c5 c1 c2 c4 c6 c24 c19 c23 c20 c31 c33 P0 K
theorem q37{j:Nat}{t:List Int}(K:Kd j t):aU (rn (n+82)) (k+11) (Jg 32 3) [.int j,~~~t]=some (.dat (.int (Jh t))):=U5 U (n:=n+52) (k:=k+10) c32 rfl c3 K (q32 U P0 K)
theorem q36(j:Nat)(hj:1<=j/\j<=9)(hK:∀t∈kinds j,Kd j t)(hl:(kinds j).length<=30)(a:aU (rn (n+98)) (k+11) x7 [.int j]=some (.new ((kinds j).map λx=>~~~x))):aU (rn (n+100)) (k+12) (PN 7 9 37 10) [.int j]=some (.dat (.int (Oa j))):=
 U4 U c7 rfl c9 rfl c10 (n:=n+70) (k:=k+11) Jh c37 rfl hj hK hl a (λt ht=>q9 U (hK t ht)) (λt ht=>q37 U P0 (hK t ht))
noncomputable def bA:List Sm:=[(.ite (.cmp .NotEq (.cmp .Eq (.call 36 [(.slot 1)]) (.val (.int 0))) (.cmp .Eq (.bin .Mod (.bin .FloorDiv (.bin .Mult (.slot 1) (.bin .Sub (.slot 1) (.val (.int 1)))) (.val (.int 2))) (.val (.int 2))) (.val (.int 1)))) [(.ret (.val (.bl false)))] [])]
omit P0 in
theorem tA(J N v:Int)(a0 a2 a3 a4 a5:Slot)(q:aU (rn (n+126)) (k+13) (PN 7 9 37 10) [.int J]=some (.dat (.int v)))(mu:qR .Mult (.int J) (.int (J - 1))=some (.dat (.int (J * (J - 1)))))(dv:qR .FloorDiv (.int (J * (J - 1))) (.int 2)=some (.dat (.int N)))(h:decide (v=0)=decide (N % 2=1)):(rn (n+130)).b [] (k+14) bA [a0,.dat (.int J),a2,a3,a4,a5]=some (.nx,[a0,.dat (.int J),a2,a3,a4,a5]):=by
 have mo:=ji N 2 ⋯;have ne:eU .NotEq (.bl (decide (v=0))) (.bl (decide (N % 2=1)))=some false:=by rw[IV,h,AQ];rfl
 unfold bA;simp! [U,c36,aE (fx:=PN 7 9 37 10) rfl,q,mu,dv,mo,ne]
def bB:List Sm:=[(.setC 3 (.comp 6 2 (.nm 7) (.call 38 [(.slot 1)]) (some (.cmp .IsNot (.call 35 [(.slot 7)]) (.val .non))) (.slot 7))),(.ite (.cmp .NotEq (.blt .len [(.slot 3)]) (.call 36 [(.slot 1)])) [(.ret (.val (.bl false)))] [])]
omit P0 in
theorem tB(m:Nat)(hm:1<=m/\m<=6)(a0 a2 a3 a4 a5:Slot)(fs:List (List (List Int)))(hl:fs.length<=100)(hw:∀x∈fs,Wb m x)(qf:aU (rn (n+128)) (k+13) P1 [.int m]=some (.new (fs.map λx=>W m x)))(qo:aU (rn (n+127)) (k+13) (PN 7 9 37 10) [.int m]=some (.dat (.int (Oa m))))(h:((fs.filter λx=>!(led m x m (dN m x)).isEmpty).length:Int)=Oa m):∃b3,(rn (n+130)).b [] (k+14) bB [a0,.dat (.int m),a2,a3,a4,a5]=some (.nx,[a0,.dat (.int m),a2,b3,a4,a5]):=by
 have w:=wF (rn:=rn (n+129)) (bor:=[]) (k:=k+14) (g:=[a0,.dat (.int m),a2,a3,a4,a5]) (g1:=[a0,.dat (.int m),a2,a3,a4,a5]) (kk:=2) (nn:=6) (j:=7) (it:=.call 38 [(.slot 1)]) (c:=some (.cmp .IsNot (.call 35 [(.slot 7)]) (.val .non))) (e:=.slot 7) fs (λx=>W m x) (λx=>!(led m x m (dN m x)).isEmpty) (λx=>W m x) (by simp! [U,dg,c38,aE (fx:=P1) rfl,qf]) rfl ⋯ ⋯ ⋯ (au _ ⋯) (λx hx G' hG=>by
  have q:=λn k=>q35 U (n:=n) (k:=k) m hm x (hw x hx)
  have e:eU .IsNot (YD (led m x m (dN m x))) .non=some (!(led m x m (dN m x)).isEmpty):=by
   cases led m x m (dN m x)with
   |nil=>rfl
   |cons a l=>rfl
  simp! [U,pM,hG.2,c35,aE (fx:=sL 25 34) rfl,q,e]) (λx hx _ G' hG=>by simp! [U,hG.2])
 have hL:((fs.filter λx=>!(led m x m (dN m x)).isEmpty).map λx=>W m x).length=(fs.filter λx=>!(led m x m (dN m x)).isEmpty).length:=dC _
 generalize ((fs.filter λx=>!(led m x m (dN m x)).isEmpty).map λx=>W m x)=L at w hL
 rw[<- hL]at h;refine⟨.own L,?_⟩;have ne:eU .NotEq (.int (L.length:Int)) (.int (Oa m))=some false:=by rw[HS,h,lL rfl];rfl
 unfold bB;simp! [U,w,c36,aE (fx:=PN 7 9 37 10) rfl,qo,ne]
end
end bL
namespace bL
open Ev
noncomputable def Ai:Nat->List (List (List Int))
 | 1=>[[]]
 | 2=>[[],[[0,1]]]
 | 3=>[[],[[0,1]],[[0,1],[0,2]],[[0,1],[0,2],[1,2]]]
 | 4=>[[],[[0,1]],[[0,1],[0,2]],[[0,1],[0,2],[0,3]],[[0,1],[0,2],[0,3],[1,2]],[[0,1],[0,2],[0,3],[1,2],[1,3]],[[0,1],[0,2],[0,3],[1,2],[1,3],[2,3]],[[0,1],[0,2],[1,2]],[[0,1],[0,2],[1,3]],[[0,1],[0,2],[1,3],[2,3]],[[0,1],[2,3]]]
 |_=>[]
structure Fk(rn:Nat->Rn)(n k:Nat):Prop where
 ak:∀j:Nat,1<=j/\j<=9->aU (rn (n+124)) (k+12) x7 [.int j]=some (.new ((kinds j).map λx=>~~~x))/\aU (rn (n+125)) (k+12) x7 [.int j]=some (.new ((kinds j).map λx=>~~~x))
 kd:∀j:Nat,1<=j/\j<=9->∀t∈kinds j,Kd j t
 nr:∀j:Nat,1<=j/\j<=9->ZW j=true
 pr:∀j:Nat,1<=j/\j<=9->(∀p∈prs j,∃a b:Int,p=[a,b]/\0<=a/\a<j/\0<=b/\b<j)/\(prs j).Nodup/\(prs j).length<=36
 fm:∀m:Nat,1<=m/\m<=4->aU (rn (n+128)) (k+13) P1 [.int m]=some (.new ((Ai m).map λx=>W m x))/\(∀x∈Ai m,Wb m x)/\(Ai m).length<=100/\(((Ai m).filter λx=>!(led m x m (dN m x)).isEmpty).length:Int)=Oa m
def bC:List Sm:=[(.set 5 (.call 40 [(.slot 0),(.slot 4)])),(.set 2 (.call 44 [(.slot 5),(.val (.int 6))])),(.ite (.not (.call 46 [(.slot 2),(.call 45 [(.slot 5),(.ix (.slot 2) (.val (.int 0)))])])) [(.ret (.val (.bl false)))] [])]
section
variable{k n:Nat}{g g1:G}{rn:Nat->Rn}(U:ju fns rn)(F:Fk rn n k)
include U
theorem cell(ns:List Int)(hl:ns.length<=63)(i:Nat)(a1 a2 a3 a5:Slot):∃b2 b5,(rn (n+130)).b [] (k+14) bC [.dat (.fix (ns.map .int)),a1,a2,a3,.dat (.int i),a5]=some (.nx,[.dat (.fix (ns.map .int)),a1,b2,a3,.dat (.int i),b5]):=by
 obtain⟨s,fl,q1⟩:=Ia U c39 (n:=n+88) (k:=k+12) ns ⋯ i;generalize hA0:Slot.dat (.fix (ns.map .int))=A0;generalize ZV:Slot.dat (.int (i:Int))=A4;obtain⟨m,aj,s1,hm,h,q2⟩:=Uz U c41 c42 c43 (n:=n+48) (k:=k+10) (g:=[A0,a1,a2,a3,A4,St s fl]) (i:=5) (s:=s) (fl:=fl) rfl;have FQ:bO (rn (n+128)) (Di 41 42 43) (k+13) [.var 5,.dat (.int 6)] [A0,a1,a2,a3,A4,St s fl]=some (.dat (W m aj),[A0,a1,a2,a3,A4,St s1 fl]):=q2;have i0:n6 (W m aj) (.int 0)=some (.int m):=rfl;obtain⟨t,s2,ht,q3⟩:=Nc U c41 c43 (n:=n+45) (k:=k+11) (g:=[A0,a1,.dat (W m aj),a3,A4,St s1 fl]) (i:=5) (s:=s1) (fl:=fl) m hm rfl;have RW:bO (rn (n+125)) (nB 41 43) (k+13) [.var 5,.dat (.int m)] [A0,a1,.dat (W m aj),a3,A4,St s1 fl]=some (.dat (~~~t),[A0,a1,.dat (W m aj),a3,A4,St s2 fl]):=q3;have r:=λn k=>YW U (n:=n) (k:=k) m hm aj h t ht
 refine⟨.dat (W m aj),St s2 fl,?_⟩;unfold bC;rw[U.b];refine (aL (g1:=[A0,a1,a2,a3,A4,St s fl]) ?_).trans ?_
 . subst hA0 ZV;simp! [U,c40,aM (fx:=qq 39) rfl,q1]
 refine (aL (g1:=[A0,a1,.dat (W m aj),a3,A4,St s1 fl]) ?_).trans ?_
 . simp! [U,c44,FQ]
 refine (aL (g1:=[A0,a1,.dat (W m aj),a3,A4,St s2 fl]) ?_).trans ?_
 . simp! [U,c45,i0,RW,c46,aM (fx:=YM) rfl,r]
 rfl
include F
theorem lA(a0 a2 a3 a4 a5:Slot):∃b1,eK (.nm 1) ((rn (n+130)).b [] (k+14) bA) ((List.range 9).map λ(i:Nat)=>D.int (1+(i:Int))) [a0,.no,a2,a3,a4,a5]=some (.nx,[a0,b1,a2,a3,a4,a5]):=by
 obtain⟨g',⟨_,b1,rfl⟩,w⟩:=cB (T:=.nm 1) (b:=(rn (n+130)).b [] (k+14) bA) (λ(i:Nat)=>D.int (1+(i:Int)))
  (I:=λl g=>(∀i∈l,i<9)/\∃b1:Slot,g=[a0,b1,a2,a3,a4,a5])
  (step:=λa l g h=>by
   obtain⟨h1,b1,rfl⟩:=h;have ha:=h1 a bP;obtain⟨j,hj⟩:∃j:Nat,(j:Int)=1+(a:Int):=⟨1+a,by lia⟩
   have Ob:1<=j/\j<=9:=by lia
   rw[<- hj];have hn:=F.nr j Ob;unfold ZW at hn;simp only[c8,b8,beq_iff_eq]at hn;have q:=q36 U F.pr (n:=n+26) (k:=k+1) j Ob (F.kd j Ob) hn.1 (F.ak j Ob).1;have mu:=fu (j:Int) ((j:Int) - 1) (.inl ⟨by lia,by lia⟩)
   have dv:=gU ((j:Int) * ((j:Int) - 1)) 2 ⋯;have eN:(j:Int) * ((j:Int) - 1) / 2=nn j:=by
    unfold nn;rw[show (j:Int) - 1=((j - 1:Nat):Int)by lia]
    rfl
   rw[eN]at dv;exact⟨_,_,rfl,tA U (j:Int) (nn j) (Oa j) a0 a2 a3 a4 a5 q mu dv hn.2,λx hx=>h1 x (aS _ hx),_,rfl⟩) (List.range 9) [a0,.no,a2,a3,a4,a5] ⟨λi hi=>lS.mp hi,_,rfl⟩
 exact⟨b1,w⟩
theorem lB(a0 a1 a2 a3 a4 a5:Slot):∃b1 b3,eK (.nm 1) ((rn (n+130)).b [] (k+14) bB) ((List.range 4).map λ(i:Nat)=>D.int (1+(i:Int))) [a0,a1,a2,a3,a4,a5]=some (.nx,[a0,b1,a2,b3,a4,a5]):=by
 obtain⟨g',⟨_,b1,b3,rfl⟩,w⟩:=cB (T:=.nm 1) (b:=(rn (n+130)).b [] (k+14) bB) (λ(i:Nat)=>D.int (1+(i:Int)))
  (I:=λl g=>(∀i∈l,i<4)/\∃b1 b3:Slot,g=[a0,b1,a2,b3,a4,a5])
  (step:=λa l g h=>by
   obtain⟨h1,b1,b3,rfl⟩:=h;have ha:=h1 a bP;obtain⟨j,hj⟩:∃j:Nat,(j:Int)=1+(a:Int):=⟨1+a,by lia⟩
   have Ob:1<=j/\j<=9:=by lia
   rw[<- hj];have hn:=F.nr j Ob;unfold ZW at hn;simp only[c8,b8]at hn;have q:=q36 U F.pr (n:=n+27) (k:=k+1) j Ob (F.kd j Ob) hn.1 (F.ak j Ob).2;obtain⟨f1,f2,f3,f4⟩:=F.fm j ⋯;obtain⟨b3',w⟩:=tB U j ⋯ a0 a2 b3 a4 a5 (Ai j) f3 f2 f1 q f4;exact⟨_,_,rfl,w,λx hx=>h1 x (aS _ hx),_,_,rfl⟩) (List.range 4) [a0,a1,a2,a3,a4,a5] ⟨λi hi=>lS.mp hi,_,_,rfl⟩
 exact⟨b1,b3,w⟩
theorem whole(ns:List Int)(hl:ns.length<=63):∃g',(rn (n+131)).b [] (k+14) V0.body [.dat (.fix (ns.map .int)),.no,.no,.no,.no,.no]=some (.rt (.dat (.bl true)),g'):=by
 obtain⟨b1,h1⟩:=lA U F (.dat (.fix (ns.map .int))) .no .no .no .no;obtain⟨c1,c3,h2⟩:=lB U F (.dat (.fix (ns.map .int))) b1 .no .no .no .no;have loop:=cB (T:=.nm 4) (b:=(rn (n+130)).b [] (k+14) bC) (λ(j:Nat)=>D.int (0+(j:Int)))
  (I:=λ(l:List Nat) g=>∃(s2 s4 s5:Slot),g=[.dat (.fix (ns.map .int)),c1,s2,c3,s4,s5])
  (step:=λa l g h=>by
   obtain⟨s2,s4,s5,rfl⟩:=h;rw[CA];obtain⟨b2,b5,q⟩:=cell U (n:=n) (k:=k) ns hl a c1 s2 c3 s5;exact⟨_,_,rfl,q,_,_,_,rfl⟩)
 obtain⟨M,hM,hM2⟩:∃M:Nat,M<=3/\(if ((if (3:Int)<ns.length then 3 else (ns.length:Int))) > 1 then (if (3:Int)<ns.length then 3 else (ns.length:Int))else 1)=(M:Int):=by
  refine⟨(if ((if (3:Int)<ns.length then 3 else (ns.length:Int))) > 1 then (if (3:Int)<ns.length then 3 else (ns.length:Int))else 1).toNat,?_,?_⟩
  . split <;> (try split) <;> lia
  . split <;> (try split) <;> lia
 obtain⟨g2,⟨s2,s4,s5,rfl⟩,h4⟩:=loop (List.range M) [.dat (.fix (ns.map .int)),c1,.no,c3,.no,.no] ⟨_,_,_,rfl⟩;have hv:eV (rn (n+130)) [] (k+14) (.blt .max [(.val (.int 1)),(.blt .min [(.blt .len [(.slot 0)]),(.val (.int 3))])]) [.dat (.fix (ns.map .int)),c1,.no,c3,.no,.no]=some (.int (M:Int),[.dat (.fix (ns.map .int)),c1,.no,c3,.no,.no]):=by rw[<- hM2];simp! [U,qj]
 have hw:dg (rn (n+130)) [] (k+14) false (.cM (.blt .max [(.val (.int 1)),(.blt .min [(.blt .len [(.slot 0)]),(.val (.int 3))])])) [.dat (.fix (ns.map .int)),c1,.no,c3,.no,.no]=some ((List.range M).map λ(j:Nat)=>D.int (0+(j:Int)),[.dat (.fix (ns.map .int)),c1,.no,c3,.no,.no]):=by unfold dg;dsimp only;rw[hv];dsimp only;rw[eP (aD M ⋯),nN];rfl
 have wr:∀(N:Int) (g:G),Cz N=true->dg (rn (n+130)) [] (k+14) false (.cO (.val (.int 1)) (.val (.int N))) g=some (bU 1 (N - 1).toNat,g):=λN g hN=>by
  simp! [U,dg,aD 1 ⋯,hN]
 refine⟨[.dat (.fix (ns.map .int)),c1,s2,c3,s4,s5],?_⟩;have hb:V0.body=[(.loop (.nm 1) (.cO (.val (.int 1)) (.val (.int 10))) bA),(.loop (.nm 1) (.cO (.val (.int 1)) (.val (.int 5))) bB),(.loop (.nm 4) (.cM (.blt .max [(.val (.int 1)),(.blt .min [(.blt .len [(.slot 0)]),(.val (.int 3))])])) bC),(.ret (.val (.bl true)))]:=rfl;rw[hb,U.b];refine (aL (g1:=[.dat (.fix (ns.map .int)),b1,.no,.no,.no,.no]) ?_).trans ?_
 . simp only[aR,Tg.ix,Tg.fL,wr 10 _ (aD 10 ⋯)];exact h1
 refine (aL (g1:=[.dat (.fix (ns.map .int)),c1,.no,c3,.no,.no]) ?_).trans ?_
 . simp only[aR,Tg.ix,Tg.fL,wr 5 _ (aD 5 ⋯)];exact h2
 refine (aL (g1:=[.dat (.fix (ns.map .int)),c1,s2,c3,s4,s5]) ?_).trans ?_
 . simp only[aR,Tg.ix,Tg.fL,hw,h4];simp
 simp! [U,U.e]
end
end bL
namespace bL
open Ev
def ZX(ps:List (List Int))(r:Option R):Bool:=match r with |some (.new l)=>(match dP l with |some ts=>decide (ts=ps) |none=>false) |_=>false
theorem Jj{ps:List (List Int)}{r:Option R}(h:ZX ps r=true):r=some (.new (ps.map λx=>~~~x)):=by
 unfold ZX at h;split at h
 .
  split at h
  . rename_i l ts e;rw[wM e,l4 h]
  . cases h
 . cases h
theorem U7{j:Nat}(h:1<=j/\j<=9):j∈[1,2,3,4,5,6,7,8,9]:=by simp only[dS,l8,AB];lia
def akB(j:Nat):Bool:=ZX (kinds j) (aU (run fns (0+124)) (0+12) x7 [.int j])&&ZX (kinds j) (aU (run fns (0+125)) (0+12) x7 [.int j])
theorem YZ:([1,2,3,4,5,6,7,8,9].all akB)=true:=by decide +kernel
theorem U8:([1,2,3,4,5,6,7,8,9].all ZW)=true:=by decide +kernel
noncomputable def prB(m:Nat)(x:List Int):Bool:=match x with | [a,b]=>decide (0<=a/\a<m/\0<=b/\b<m) |_=>false
theorem U9:([1,2,3,4,5,6,7,8,9].all λj=>(prs j).all (prB j)&&decide ((prs j).Nodup)&&decide ((prs j).length<=36))=true:=by decide +kernel
theorem Y0(j:Nat)(h:1<=j/\j<=9):(∀p∈prs j,∃a b:Int,p=[a,b]/\0<=a/\a<j/\0<=b/\b<j)/\(prs j).Nodup/\(prs j).length<=36:=by
 have:=eJ.mp U9 j (U7 h);simp only[c8,b8,eJ]at this;refine⟨λp hp=>?_,this.1.2,this.2⟩
 have q:=this.1.1 p hp;unfold prB at q;split at q
 . rename_i a b;have q:=l4 q;exact⟨a,b,rfl,q.1,q.2.1,q.2.2.1,q.2.2.2⟩
 . cases q
theorem Aj{α:Type}{p:α->Bool}(l:List α)(n:Nat)(h1:(l.take n).all p=true)(h2:(l.drop n).all p=true):l.all p=true:=by rw[<- AH n l,List.all_append,h1,h2];rfl
theorem kd1:([1,2,3,4,5,6].all λj=>(kinds j).all (PX j))=true:=by decide +kernel
theorem kd7:(kinds 7).all (PX 7)=true:=by decide +kernel
theorem kd8a:((kinds 8).take 11).all (PX 8)=true:=by decide +kernel
theorem kd8b:((kinds 8).drop 11).all (PX 8)=true:=by decide +kernel
theorem kd9a:((kinds 9).take 15).all (PX 9)=true:=by decide +kernel
theorem kd9b:((kinds 9).drop 15).all (PX 9)=true:=by decide +kernel
theorem kd(j:Nat)(h:1<=j/\j<=9)(t:List Int)(ht:t∈kinds j):Kd j t:=by
 refine Kd.of h ht ?_;by_cases h7:j=7
 . subst h7;exact eJ.mp kd7 t ht
 by_cases h8:j=8
 . subst h8;exact eJ.mp (Aj _ 11 kd8a kd8b) t ht
 by_cases h9:j=9
 . subst h9;exact eJ.mp (Aj _ 15 kd9a kd9b) t ht
 exact eJ.mp (eJ.mp kd1 j (by simp only[dS,l8,AB];lia)) t ht
def ZZ(m:Nat)(ps:List (List (List Int)))(r:Option R):Bool:=match r with |some (.new l)=>(match jz l with |some ts=>decide (ts=ps.map λx=>[(m:Int)]::x) |none=>false) |_=>false
theorem Jk{m:Nat}{ps:List (List (List Int))}{r:Option R}(h:ZZ m ps r=true):r=some (.new (ps.map λx=>W m x)):=by
 unfold ZZ at h;split at h
 .
  split at h
  . rename_i l ts e;rw[(kF e).1,l4 h,List.map_map];rfl
  . cases h
 . cases h
def wbB(m:Nat)(x:List (List Int)):Bool:=x.all (λp=>match p with | [a,b]=>decide (0<=a/\a<b/\b<m) |_=>false)&&decide (x.Pairwise λx y=>HT.lexLt x y=true)&&decide (x.length<=15)
theorem Va{m:Nat}{x:List (List Int)}(h:wbB m x=true):Wb m x:=by
 unfold wbB at h;simp only[c8,b8,eJ]at h;refine⟨λp hp=>?_,h.1.2,h.2⟩
 have q:=h.1.1 p hp;split at q
 . rename_i a b;exact⟨a,b,rfl,l4 q⟩
 . cases q
def fmB(m:Nat):Bool:=(Ai m).all (wbB m)&&decide ((Ai m).length<=100)&&decide ((((Ai m).filter λx=>!(led m x m (dN m x)).isEmpty).length:Int)=Oa m)
theorem Vb:([1,2,3,4].all fmB)=true:=by decide +kernel
theorem fw1:([1,2,3].all λm=>ZZ m (Ai m) (aU (run fns (0+128)) (0+13) P1 [.int m]))=true:=by decide +kernel
theorem fw4:ZZ 4 (Ai 4) (aU (run fns (0+128)) (0+13) P1 [.int (4:Nat)])=true:=by decide +kernel
theorem Y3(m:Nat)(hm:1<=m/\m<=4):aU (run fns (0+128)) (0+13) P1 [.int m]=some (.new ((Ai m).map λx=>W m x))/\(∀x∈Ai m,Wb m x)/\(Ai m).length<=100/\(((Ai m).filter λx=>!(led m x m (dN m x)).isEmpty).length:Int)=Oa m:=by
 have h:=eJ.mp Vb m (by simp only[dS,l8,AB];lia)
 unfold fmB at h;simp only[c8,b8,eJ]at h;refine⟨?_,λx hx=>Va (h.1.1 x hx),h.1.2,h.2⟩
 by_cases h4:m=4
 . subst h4;exact Jk fw4
 . exact Jk (eJ.mp fw1 m (by simp only[dS,l8,AB];lia))
theorem Vc:Fk (run fns) 0 0:=by
 refine⟨λj h=>?_,kd,λj h=>eJ.mp U8 j (U7 h),Y0,Y3⟩
 have:=eJ.mp YZ j (U7 h);unfold akB at this;simp only[c8]at this;exact⟨Jj this.1,Jj this.2⟩
def kk:Nat:=14
def fuel:Nat:=131
theorem hev(ns:List Int)(hl:ns.length<=63):∃g',(run fns fuel).b [] kk V0.body (fZ 6 [.dat (.fix (ns.map .int))])=some (.rt (.dat (.bl true)),g'):=whole (M8 fns) Vc ns hl
end bL
namespace Ev
open L2
def Y4:Value->Bool
 |.str _ _=>true
 |_=>false
def Oc:Value->Bool
 |.int _ _=>true
 |_=>false
def P4:Value->Bool
 |.bool _=>true
 |_=>false
noncomputable def Vd(n:String):Value->Bool
 |.type m=>decide (m=n)
 |_=>false
noncomputable def Ve(q:Addr):Option Value->Bool
 |some (.ref p)=>decide (p=q)
 |_=>false
theorem Ak{n:String}{v:Value}(h:Vd n v=true):v=.type n:=by
 unfold Vd at h;split at h
 . rw[l4 h]
 . cases h
theorem Od{q:Addr}{v:Option Value}(h:Ve q v=true):v=some (.ref q):=by
 unfold Ve at h;split at h
 . rw[l4 h]
 . cases h
def codeOk(K:Frag)(c q:Addr):Bool:=match K.lookup c with
 |some o=>(match o.data with
  |.fields vs=>Vd "code" o.cls&&Ve q vs[11]?&&Y4 (vs.getD 18 .none)&&Oc (vs.getD 7 .none)&&P4 (vs.getD 9 .none)&&Oc (vs.getD 10 .none)&&decide (c≠q)
  |_=>false)
 |none=>false
theorem Dt{K:Frag}{h:Heap}{c q:Addr}(X:K.In h)(e:codeOk K c q=true):PySem.W.CodeHd h c q/\∃o vs,h.get? c=some o/\o.cls=.type "code" /\o.data=.fields vs/\vs[11]?=some (.ref q):=by
 unfold codeOk at e;split at e
 .
  rename_i o ho;split at e
  .
   rename_i vs hv;simp only[c8,b8]at e;obtain⟨⟨⟨⟨⟨⟨e1,e2⟩,e3⟩,e4⟩,e5⟩,e6⟩,e7⟩:=e;have r:=Od e2;have d:vs.getD 11 .none=.ref q:=by rw[wP,r];rfl
   unfold Y4 at e3;split at e3
   .
    rename_i file tf h3;unfold Oc at e4;split at e4
    .
     rename_i fl tg h4;unfold P4 at e5;split at e5
     .
      rename_i b h5;unfold Oc at e6;split at e6
      . rename_i tx tt h6;exact⟨⟨o,vs,file,tf,fl,tg,b,tx,tt,X _ _ ho,Ak e1,hv,r,d,h3,h4,h5,h6,e7⟩,o,vs,X _ _ ho,Ak e1,hv,r⟩
      . cases e6
     . cases e5
    . cases e4
   . cases e3
  . cases e
 . cases e
theorem xr{q:Addr}{K:Params->Frag}{w:World}{h:Heap}(e:(K w.params).lookup q=none)(Y:PySem.W.InK (qY q K) w h):(K w.params).In h:=λa o ho=>by
 refine Y a o ?_;show List.lookup a ((q,_)::K w.params)=_;rw[oP];have:(a==q)=false:=by
  by_cases z:a=q
  . rw[z,e]at ho;cases ho
  . simpa using z
 rw[this];exact ho
theorem Du{c q:Addr}{K:Params->Frag}{w:World}{h:Heap}(e:(K w.params).lookup q=none)(e2:codeOk (K w.params) c q=true)(Y:PySem.W.InK (qY q K) w h):∀p∈[q],(∃c,h.TableAt c p #[])/\(K w.params).lookup p=none:=λp hp=>by
 cases i6.mp hp;refine⟨⟨c,(Dt (xr e Y) e2).2,Y _ _ ?_⟩,e⟩;show List.lookup q ((q,_)::K w.params)=_;simp
theorem Jl{l:PySem.W.OpenLaw}{n k:Nat}{q:Program}{loose:List Str}{XP:(Str->Option Value)->Heap->Prop}{YP:World->Heap->Prop}{d:DefRec}{K:Params->Frag}{CX:Es}{sp:Frag->Sp}{x:Str}{T:List Addr}
  (hn:l.most=some n) (hn2:n<=sizeLine) (mO:d.params.defaults=[]) (hr:fX k callerA)
  (hY:∀(w:World) (h:Heap),YP w h->(K w.params).In h) (hT:∀(w:World) (h:Heap),YP w h->∀q∈T,(∃c,h.TableAt c q #[])/\(K w.params).lookup q=none)
  (F:∀(w:World) (mg:Str->Option Value) (fa:Addr) (h:Heap),(K w.params).In h->h.Ns mainGlobals mg->mg d.name=some (.ref fa)->
   ∃fd:FuncData,(∀(s:Shared) (u:Value),BindsTo s fd ⟨[u],[]⟩ [(x,u)])/\
    ∀base:Heap,(K w.params).In base->base.Ns mainGlobals mg->qF l.prog w (K w.params) mg base CX k fa fd [x] (sp (K w.params)))
  (Vm:∀(w:World) (H:Hp) (a:Addr) (ns:List Int),ns.length<=n->zJ T H->bY (K w.params) H a (ns.map V.int)->sp (K w.params) [.ref a] H (λv _=>v=.bl true) λ_ _ _=>False)
  (hCX:∀(H:Hp) (s:Shared) (e:Value) (s':Shared),CX [] H s (λ_ _ _=>False) e s'->False) :
  PySem.W.WalkO q loose XP YP l.row.toRowW d [] (λf vs=>PySem.call f vs):=by
 refine Att.ve hn mO λw s₀ s₁ mg mb fa o pm cd doc a vs ns G Y ho hd eS hmg hobj hints aJ hg=>?_
 have KX:=hY w _ Y;obtain⟨fd,hb,hF⟩:=F w mg fa _ KX G.T.g hmg;exact Ci KX (hT w _ Y) G.T.g G.T.b G.T.builtins G.T.nolimit hg hobj hints (hV aJ hn2) hr hF hb (λH hO hS=>Vm w H a ns aJ hO hS) λH e s'=>hCX H s₁ e s'
end Ev
namespace bL
open L2 Ev
def f0:Fi:=bz (st 7)
def f1:Fi:=bz (st 8)
def f2:Fi:=bz (st 9)
def f3:Fi:=bz (st 10)
def f4:Fi:=bz (st 13)
def f5:Fi:=bz (st 14)
def f6:Fi:=bz (st 15)
def f7:Fi:=bz (st 16)
def f8:Fi:=bz (st 17)
def f9:Fi:=bz (st 18)
def f10:Fi:=bz (st 19)
def f11:Fi:=bz (st 22)
def f12:Fi:=bz (st 23)
def f13:Fi:=bz (st 24)
def f14:Fi:=bz (st 25)
def f15:Fi:=bz (st 26)
def f16:Fi:=bz (st 27)
def f17:Fi:=bz (st 28)
def f18:Fi:=bz (st 29)
def f19:Fi:=bz (st 30)
def f20:Fi:=bz (st 31)
def f21:Fi:=bz (st 32)
def f22:Fi:=bz (st 33)
def f23:Fi:=bz (st 34)
def f24:Fi:=bz (st 35)
def f25:Fi:=bz (st 37)
def f26:Fi:=bz (st 38)
def f27:Fi:=bz (st 39)
def f28:Fi:=bz (st 40)
def f29:Fi:=bz (st 41)
def f30:Fi:=bz (st 42)
def f31:Fi:=bz (st 44)
def f32:Fi:=bz (st 45)
def f33:Fi:=bz (st 46)
def f34:Fi:=bz (st 48)
def f35:Fi:=bz (st 49)
def f36:Fi:=bz (st 50)
def f37:Fi:=bz (st 51)
def f38:Fi:=bz (st 54)
def f39:Fi:=bz (st 56)
def f40:Fi:=bz (st 57)
def f41:Fi:=bz (st 58)
def f42:Fi:=bz (st 59)
def f43:Fi:=bz (st 60)
def f44:Fi:=bz (st 61)
def f45:Fi:=bz (st 62)
def f46:Fi:=bz (st 63)
def V1:Fi:=bz (st 64)
def ups:List (Str×List (Addr×Bool)):=[]
noncomputable def P:Pg:=⟨[f0,f1,f2,f3,f4,f5,f6,f7,f8,f9,f10,f11,f12,f13,f14,f15,f16,f17,f18,f19,f20,f21,f22,f23,f24,f25,f26,f27,f28,f29,f30,f31,f32,f33,f34,f35,f36,f37,f38,f39,f40,f41,f42,f43,f44,f45,f46,V1],[("MOST_NAMES",.int 9),("MOST_PLACES",.int 6),("MOST_FORMED",.int 5)],["all", "any", "bool", "enumerate", "int", "isinstance", "len", "list", "max", "min", "range", "sorted", "sum", "tuple"],[],false,[], "KindError",ups⟩
theorem Vf:Hz P P.fn fns=true:=by decide +kernel
theorem fns_eq:List.zipWith (zW P) P.fn fns=P.fn.map (λfi=>cC fi.st):=by kernel_rfl
theorem nLaw:V1.N.length=6:=rfl
theorem hevF:∀ns:List Int,ns.length<=63->∃g',(run fns fuel).b [] kk V0.body (fZ V1.N.length [.dat (.fix (ns.map .int))])=some (.rt (.dat (.bl true)),g'):=by rw[nLaw];exact hev
theorem Oe(P:Params):fY (K P)=[(nat_lit 360,S4)]:=by kernel_rfl
theorem Jm(P:Params):(K P).lookup (nat_lit 360)=none:=by kernel_rfl
theorem Og(P:Params):codeOk (K P) (nat_lit 362) (nat_lit 360)=true:=by kernel_rfl
end bL
open PySem PySem.W PyProof.Rows
set_option maxHeartbeats 0 in
theorem PySem.Challenge.cw_websbykind_k82_whole_opposites_holds : PySem.Challenge.rw_websbykind_k82_whole_opposites.Holds := by
 w_on
 refine PySem.W.holds_law (by decide +kernel) λsaid=>?_
 refine PySem.W.holds_open (q:=bL.qv) (loose:=[]) (Xt:=λs=>xlAt bL.qv [] s&&recOk (OpenRow.toRowW PySem.Challenge.rw_websbykind_k82_whole_opposites.row).records s) (XP:=XL bL.qv []) (Yf:=λs=>bL.as2.map s.heap.get?) (Ya:=λw=>(Ev.qY 360 bL.K w.params).map λp:Nat×Obj=>some p.2) (YP:=InK (Ev.qY 360 bL.K)) (N:=8000) bL.hl (InK.of bL.V3) InK.keeps (λs e=>xl_of s (Bool.and_eq_true_iff.mp e).1) XL.keeps (by rfl) (by rfl) (by rfl) (λs e=>recFacts_of (Bool.and_eq_true_iff.mp e).2) (by rfl) (by first |assumption |decide +kernel) (by decide +kernel) ⟨rfl,rfl,rfl,rfl,rfl,by decide +kernel⟩ ?hw ?hc
 (case hw=>w_witness2)
 k_fill
 refine Ev.Jl (l:=PySem.Challenge.rw_websbykind_k82_whole_opposites) (n:=63) (k:=bL.kk+1) (x:= "_law_script") (CX:=L2.Jp) (K:=bL.K) (T:=[360]) (sp:=λK=>Ev.RX K bL.V1.N 1 λbor g r g'=>(Ev.run bL.fns bL.fuel).b bor bL.kk bL.V0.body g=some (.rt r,g')) rfl ⋯ rfl ⟨rfl,by decide,by decide⟩ (λw h Y=>Ev.xr (bL.Jm _) Y) (λw h Y=>Ev.Du (bL.Jm _) (bL.Og _) Y) ?F ?S ?C
 case F=>
  intro w mg fa h KX G hmg
  have mm:Ev.bu (L2.KOf KX) mg bL.f0/\Ev.bu (L2.KOf KX) mg bL.f1/\Ev.bu (L2.KOf KX) mg bL.f2/\Ev.bu (L2.KOf KX) mg bL.f3/\Ev.bu (L2.KOf KX) mg bL.f4/\Ev.bu (L2.KOf KX) mg bL.f5/\Ev.bu (L2.KOf KX) mg bL.f6/\Ev.bu (L2.KOf KX) mg bL.f7/\Ev.bu (L2.KOf KX) mg bL.f8/\Ev.bu (L2.KOf KX) mg bL.f9/\Ev.bu (L2.KOf KX) mg bL.f10/\Ev.bu (L2.KOf KX) mg bL.f11/\Ev.bu (L2.KOf KX) mg bL.f12/\Ev.bu (L2.KOf KX) mg bL.f13/\Ev.bu (L2.KOf KX) mg bL.f14/\Ev.bu (L2.KOf KX) mg bL.f15/\Ev.bu (L2.KOf KX) mg bL.f16/\Ev.bu (L2.KOf KX) mg bL.f17/\Ev.bu (L2.KOf KX) mg bL.f18/\Ev.bu (L2.KOf KX) mg bL.f19/\Ev.bu (L2.KOf KX) mg bL.f20/\Ev.bu (L2.KOf KX) mg bL.f21/\Ev.bu (L2.KOf KX) mg bL.f22/\Ev.bu (L2.KOf KX) mg bL.f23/\Ev.bu (L2.KOf KX) mg bL.f24/\Ev.bu (L2.KOf KX) mg bL.f25/\Ev.bu (L2.KOf KX) mg bL.f26/\Ev.bu (L2.KOf KX) mg bL.f27/\Ev.bu (L2.KOf KX) mg bL.f28/\Ev.bu (L2.KOf KX) mg bL.f29/\Ev.bu (L2.KOf KX) mg bL.f30/\Ev.bu (L2.KOf KX) mg bL.f31/\Ev.bu (L2.KOf KX) mg bL.f32/\Ev.bu (L2.KOf KX) mg bL.f33/\Ev.bu (L2.KOf KX) mg bL.f34/\Ev.bu (L2.KOf KX) mg bL.f35/\Ev.bu (L2.KOf KX) mg bL.f36/\Ev.bu (L2.KOf KX) mg bL.f37/\Ev.bu (L2.KOf KX) mg bL.f38/\Ev.bu (L2.KOf KX) mg bL.f39/\Ev.bu (L2.KOf KX) mg bL.f40/\Ev.bu (L2.KOf KX) mg bL.f41/\Ev.bu (L2.KOf KX) mg bL.f42/\Ev.bu (L2.KOf KX) mg bL.f43/\Ev.bu (L2.KOf KX) mg bL.f44/\Ev.bu (L2.KOf KX) mg bL.f45/\Ev.bu (L2.KOf KX) mg bL.f46/\Ev.bu (L2.KOf KX) mg bL.V1:=by
   refine⟨?_,?_,?_,?_,?_,?_,?_,?_,?_,?_,?_,?_,?_,?_,?_,?_,?_,?_,?_,?_,?_,?_,?_,?_,?_,?_,?_,?_,?_,?_,?_,?_,?_,?_,?_,?_,?_,?_,?_,?_,?_,?_,?_,?_,?_,?_,?_,?_⟩ <;> (
    dsimp only[L2.KOf]
    exact Ev.Yu (by assumption) (by assumption) (by k_is) (by k_is) (by k_is) (by k_is) ⟨rfl,rfl,rfl,by decide +kernel,by decide +kernel,by decide +kernel,by decide +kernel⟩ (λ_ _ _ _ _ _ us hl=>by first | (obtain⟨_,e⟩:=Ev.Yv hl;subst e;rfl) | (obtain⟨_,_,e⟩:=Ev.Yw hl;subst e;rfl) | (obtain⟨_,_,_,e⟩:=Ev.len3 hl;subst e;rfl) | (obtain⟨_,_,_,_,e⟩:=Ev.len4 hl;subst e;rfl)) ⋯)
  obtain⟨m0,m1,m2,m3,m4,m5,m6,m7,m8,m9,m10,m11,m12,m13,m14,m15,m16,m17,m18,m19,m20,m21,m22,m23,m24,m25,m26,m27,m28,m29,m30,m31,m32,m33,m34,m35,m36,m37,m38,m39,m40,m41,m42,m43,m44,m45,m46,m47⟩:=mm
  have uJ:Ev.Hx (L2.KOf KX) mg ("MOST_NAMES",.int 9):=by
   dsimp only[L2.KOf]
   refine' Ev.yN KX G ?a ⋯
   (case a=>k_is)
  have qW:Ev.Hx (L2.KOf KX) mg ("MOST_PLACES",.int 6):=by
   dsimp only[L2.KOf]
   refine' Ev.yN KX G ?a ⋯
   (case a=>k_is)
  have qX:Ev.Hx (L2.KOf KX) mg ("MOST_FORMED",.int 5):=by
   dsimp only[L2.KOf]
   refine' Ev.yN KX G ?a ⋯
   (case a=>k_is)
  have Y5:mg "all"=none:=mg_none_of KX G (by k_is)
  have Y6:mg "any"=none:=mg_none_of KX G (by k_is)
  have Vg:mg "bool"=none:=mg_none_of KX G (by k_is)
  have xu:mg "enumerate"=none:=mg_none_of KX G (by k_is)
  have Y7:mg "int"=none:=mg_none_of KX G (by k_is)
  have uK:mg "isinstance"=none:=mg_none_of KX G (by k_is)
  have Y8:mg "len"=none:=mg_none_of KX G (by k_is)
  have Vh:mg "list"=none:=mg_none_of KX G (by k_is)
  have Y9:mg "max"=none:=mg_none_of KX G (by k_is)
  have Za:mg "min"=none:=mg_none_of KX G (by k_is)
  have Oh:mg "range"=none:=mg_none_of KX G (by k_is)
  have Jo:mg "sorted"=none:=mg_none_of KX G (by k_is)
  have Zb:mg "sum"=none:=mg_none_of KX G (by k_is)
  have Oi:mg "tuple"=none:=mg_none_of KX G (by k_is)
  have lm:Ev.T6 bL.P (L2.KOf KX) mg:=Ev.MF rfl rfl rfl
  have md:Ev.CG bL.P (L2.KOf KX) mg:=Ev.Yt (.cons m0 (.cons m1 (.cons m2 (.cons m3 (.cons m4 (.cons m5 (.cons m6 (.cons m7 (.cons m8 (.cons m9 (.cons m10 (.cons m11 (.cons m12 (.cons m13 (.cons m14 (.cons m15 (.cons m16 (.cons m17 (.cons m18 (.cons m19 (.cons m20 (.cons m21 (.cons m22 (.cons m23 (.cons m24 (.cons m25 (.cons m26 (.cons m27 (.cons m28 (.cons m29 (.cons m30 (.cons m31 (.cons m32 (.cons m33 (.cons m34 (.cons m35 (.cons m36 (.cons m37 (.cons m38 (.cons m39 (.cons m40 (.cons m41 (.cons m42 (.cons m43 (.cons m44 (.cons m45 (.cons m46 (.cons m47 .nil)))))))))))))))))))))))))))))))))))))))))))))))) (.cons uJ (.cons qW (.cons qX .nil))) (.cons Y5 (.cons Y6 (.cons Vg (.cons xu (.cons Y7 (.cons uK (.cons Y8 (.cons Vh (.cons Y9 (.cons Za (.cons Oh (.cons Jo (.cons Zb (.cons Oi .nil)))))))))))))) .nil lm
  exact Ev.Hy (Ev.Ua bL.Vf bL.fns_eq) md (i:=47) (fi:=bL.V1) rfl rfl rfl m47 hmg
 case S=>exact λw H a ns hl hO hS=>Ev.T8 bL.hevF (bL.K w.params) H a ns hl (by rw[bL.Oe];exact hO) hS
 case C=>exact λ_ _ _ _ z=>z
