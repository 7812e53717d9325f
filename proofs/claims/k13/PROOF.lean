import PyProof.Rows.All
import Wide.All
import OpenK.AllK
import Wide.FinOn
import Lean
import PyProof.EqAt
import PyProof.EqKinds
import PyProof.TupleCall
import PySem.Challenge.RW_websbykind_k13_whole_kinds_counted
set_option Elab.async false
set_option linter.all false
set_option compiler.extract_closed false
set_option bootstrap.genMatcherCode false
set_option genSizeOf false
set_option maxHeartbeats 4000000
set_option maxRecDepth 100000
set_option autoImplicit true
open PySem PySem.Spec PyProof.Rows
open PySem.W (Frag)
noncomputable section
local macro_rules | `(⋯)=>`(by first |decide |lia |simp)
local macro_rules | `($x⁻¹)=>`(($x).heap.objs.size)
local macro_rules|`(⇑$x)=>`((.slot $x))
local macro_rules|`(↥$x)=>`((.val (.int $x)))
local macro_rules|`(‹$x›)=>`((.dat (.int $x)))
local macro_rules|`(~~~5)=>`(List (List Int))
local macro_rules|`(~~~0)=>`(List Int)
local macro_rules|`(~~~1)=>`(List (Addr×Obj))
set_option hygiene false in
local macro_rules|`(~~~2)=>`(model X.prog X.w)
local macro_rules|`(~~~3)=>`(("__debug__":Str))
local macro_rules|`(~~~4)=>`([(.ret (.val (.bl false)))])
set_option hygiene false in
local macro_rules|`(~~~7)=>`(Inv X L Y H s)
set_option hygiene false in
local macro_rules|`(tactic|left)=>`(tactic|split at h)
set_option hygiene false in
local macro_rules|`(tactic|symm)=>`(tactic|cases h)
abbrev aS:=@PySem.wpAny_bind
abbrev bP:=@List.mem_cons_of_mem
abbrev b0:=@PySem.Heap.get?_push_of_some
abbrev c8:=@List.mem_cons_self
abbrev dA:=@List.getElem?_eq_some_iff
abbrev dC:=@List.size_toArray
abbrev dE:=@Bool.and_eq_true
abbrev dL:=@decide_eq_true_eq
abbrev dS:=@List.getElem?_append_left
abbrev d5:=@PySem.wpAny_pure
abbrev d6:=@List.mem_cons
abbrev eA:=@List.length_map
abbrev eC:=@List.length_append
abbrev eD:=@Nat.le_refl
abbrev eJ:=@PySem.Heap.get?_push_size
abbrev eM:=@List.all_eq_true
abbrev eP:=@List.mem_singleton
abbrev eQ:=@List.getElem?_append_right
abbrev eR:=@PySem.Heap.lt_size
abbrev fA:=@Nat.lt_of_lt_of_le
abbrev fI:=@Option.bind_eq_some_iff
abbrev fN:=@if_pos
abbrev fR:=@List.mem_map
abbrev gL:=@List.getElem?_set_ne
abbrev gN:=@List.getD_eq_getElem?_getD
abbrev hU:=@if_neg
abbrev hV:=@List.nodup_cons
abbrev hZ:=@List.getElem?_set_self
abbrev i5:=@List.length_cons
abbrev i6:=@List.length_replicate
abbrev i7:=@List.mem_append_right
abbrev i8:=@Bool.false_ne_true
abbrev i9:=@List.mem_filter
abbrev kA:=@Nat.le_trans
abbrev kS:=@List.not_mem_nil
abbrev lL:=@PySem.wpAny_holding
abbrev lS:=@PySem.Heap.get?_update_other
abbrev l4:=@Nat.ne_of_lt
abbrev l5:=@List.length_singleton
abbrev l6:=@List.mem_of_getElem?
abbrev l7:=@decide_eq_true
abbrev l8:=@PyProof.Rows.callWith_type1
abbrev l9:=@of_decide_eq_true
abbrev mB:=@List.getElem?_eq_getElem
abbrev mE:=@Nat.lt_succ_self
abbrev mI:=@List.mem_range
abbrev mM:=@PySem.Heap.size_push
abbrev mN:=@List.map_congr_left
abbrev mP:=@Nat.lt_irrefl
abbrev nE:=@PySem.wpAny_mono
abbrev nK:=@PySem.wpAny_newObj_type
abbrev nN:=@List.map_append
abbrev nS:=@PySem.sizeLine_eq
abbrev nV:=@PySem.wpAny_truthy_bool
abbrev n0:=@List.append_nil
abbrev oC:=@PyProof.Rows.slot_tuple_getitem
abbrev oD:=@Array.length_toList
abbrev oI:=@List.replicate_succ
abbrev oP:=@Nat.add_sub_cancel_left
abbrev oQ:=@Ne.symm
abbrev oT:=@List.getElem?_eq_none_iff
abbrev o6:=@Int.toNat_natCast
abbrev pE:=@List.getElem?_take_of_lt
abbrev pV:=@decide_eq_false
abbrev rV:=@Option.some.inj
abbrev sB:=@PySem.wpAny_field
abbrev sK:=@Bool.or_eq_true
abbrev sR:=@PySem.wpAny_callSpecial?_slot
abbrev sT:=@List.lookup_cons
abbrev tJ:=@List.getElem?_map
abbrev tP:=@List.flatten_cons
abbrev tS:=@PySem.wpAny_seqItems
abbrev t7:=@PySem.wpAny_pyIter_tuple
abbrev t8:=@PySem.W.kia_one
abbrev t9:=@Nat.lt_of_lt_of_eq
abbrev u4:=@List.mem_append_left
abbrev u7:=@List.range_eq_range'
abbrev u8:=@List.length_take
abbrev vS:=@PySem.wpAny_call_entry
abbrev v6:=@Nat.lt_or_ge
abbrev wE:=@List.append_assoc
abbrev wP:=@Nat.zero_le
abbrev wS:=@List.mem_map_of_mem
abbrev wT:=@PySem.Heap.get?_update_self
abbrev xI:=@List.length_set
abbrev xL:=@List.mem_replicate
abbrev yA:=@if_true
abbrev yB:=@or_false
abbrev yY:=@List.nodup_nil
abbrev y0:=@List.Perm.refl
abbrev y6:=@Nat.lt_succ_of_lt
abbrev y7:=@List.Sublist.refl
abbrev y8:=@List.nodup_append
abbrev An:=@List.length_range
abbrev Ap:=@List.filterMap_cons
abbrev At:=@Bool.eq_iff_iff
abbrev AA:=@Array.getD_eq_getD_getElem?
abbrev AB:=@PySem.F.slot_tuple_iterator_next
abbrev AC:=@List.range'_succ
abbrev AD:=@PySem.F.plain_min_loop
abbrev AE:=@PySem.wpAny_standAt
abbrev AF:=@List.zip_cons_cons
abbrev AG:=@List.pairwise_cons
abbrev AH:=@PySem.wpAny_setField_rec
abbrev AI:=@List.mem_append
abbrev AJ:=@PySem.wpAny_passesOwn
abbrev AK:=@PySem.wpAny_pyIter_list
abbrev AL:=@List.flatMap_cons
abbrev AM:=@PySem.mem_of_lookup
abbrev AO:=@Nat.le_succ
abbrev AQ:=@PySem.F.plainAttrs_list
abbrev AR:=@List.length_reverse
abbrev AS:=@List.drop_length
abbrev AT:=@Nat.lt_of_succ_lt_succ
abbrev AU:=@List.filter_eq_nil_iff
abbrev AV:=@Bool.false_eq_true
abbrev AW:=@of_decide_eq_false
abbrev AX:=@List.dropLast_concat_getLast
abbrev AY:=@List.length_nil
abbrev AZ:=@List.nil_append
abbrev A5:=@List.getElem?_eq_none
abbrev A6:=@Nat.not_lt_zero
abbrev A7:=@List.take_append_drop
abbrev A8:=@List.set_append_right
abbrev A9:=@Nat.sub_eq_zero_of_le
abbrev Bi:=@List.length_filter_le
abbrev Bn:=@List.sum_cons
abbrev Bz:=@Array.perm_iff_toList_perm
abbrev BA:=@List.nodup_iff_pairwise_ne
abbrev BB:=@List.perm_ext_iff_of_nodup
abbrev BC:=@PySem.Heap.size_update
abbrev BD:=@List.any_eq_true
abbrev BE:=@List.filter_cons
abbrev BF:=@PySem.F.args_tuple_add_2
abbrev BH:=@PySem.call_meets
abbrev BI:=@PySem.AutoSeq1.wpAny_loadPart'
abbrev BM:=@PySem.wpAny_Call_Name_kw
abbrev BN:=@PySem.F.entry_tuple_add
abbrev BO:=@Option.map_some
abbrev BQ:=@PySem.codeAny_builtin
abbrev BS:=@PySem.wpAny_newList
abbrev BU:=@Array.Perm.refl
abbrev BY:=@Int.emod_lt_of_pos
abbrev B0:=@List.length_range'
abbrev B1:=@List.mem_singleton_self
abbrev B2:=@Option.map_eq_some_iff
abbrev B3:=@PySem.F.slot_tuple_add
abbrev B5:=@Nat.le_of_succ_le_succ
abbrev B6:=@List.flatten_singleton
abbrev B7:=@List.reverse_cons
abbrev B8:=@PySem.F.slot_list_count
abbrev B9:=@PySem.wpAny_letGo
abbrev Cc:=@PySem.F.plainAttrs_list
abbrev Cf:=@Nat.mul_le_mul
abbrev Cn:=@Nat.ne_of_gt
abbrev Co:=@PySem.wpAny_typeOf
abbrev Cs:=@List.all_map
abbrev CA:=@Nat.succ.inj
abbrev CB:=@Nat.zero_add
abbrev CC:=@List.contains_iff_mem
abbrev CD:=@Int.zero_add
abbrev CF:=@beq_self_eq_true
abbrev CH:=@List.getElem_mem
abbrev CI:=@Nat.le_add_right
abbrev CL:=@List.mem_flatMap
abbrev CM:=@List.map_reverse
abbrev CO:=@Nat.not_succ_le_zero
abbrev C0:=@PySem.wpAny_onRaise
abbrev C1:=@PySem.wpAny_rule
abbrev C3:=@List.of_mem_zip
abbrev C5:=@List.getElem?_range
abbrev C6:=@List.getElem_of_mem
abbrev C8:=@Int.emod_nonneg
abbrev C9:=@if_false
abbrev Do:=@Bool.and_false
theorem nt{p:Prop}(h:false=true):p:=Bool.noConfusion h
namespace L2
def iW(s:Stmt):Arguments:=match s with
 |.FunctionDef _ a _ _ _ _ _ _ _ _=>a
 |_=>{ posonlyargs:=[],args:=[],vararg:=none,kwonlyargs:=[],kw_defaults:=[],kwarg:=none,defaults:=[]}
def cA(s:Stmt):List Stmt:=match s with
 |.FunctionDef _ _ b _ _ _ _ _ _ _=>b
 |_=>[]
def aZ(s:Stmt):Scope:=match s with
 |.FunctionDef _ _ _ _ _ _ sc _ _ _=>sc
 |_=>{ kind:=.function,names:=[],isGenerator:=false,isCoroutine:=false}
end L2
namespace Ev
open L2
noncomputable def qO(q:Addr)(K:Params->Frag)(P:Params):Frag:=(q,{ cls:=.none,data:=.fields #[]})::K P
section
open PySem.W
noncomputable def JH(tb:String->Option Builtin)(p:Program)(w:World)(n₀:Nat)(ann:Option Value):Nat->SharedT->Thread->Option SharedT
 | 0,_,_=>none
 |n+1,s,t=>match through t with
  |true=>some s
  |false=>match stepOk n₀ ann t with
   |false=>none
   |true=>match stepT (denote tb) p w s t with
    |some (s',t')=>JH tb p w n₀ ann n s' t'
    |none=>none
theorem zb{tb:String->Option Builtin}{p:Program}{w:World}{n₀:Nat}{ann:Option Value}:∀{n:Nat}{s s':SharedT}{t:Thread},JH tb p w n₀ ann n s t=some s'->topRun tb p w n₀ ann n s.abs t=some s'.abs
 | 0,_,_,_,h=>by symm
 |n+1,s,s',t,h=>by
  unfold JH at h;unfold topRun;cases he:through t with
  |true=>rw[he]at h;symm;rfl
  |false=>
   rw[he]at h;cases hk:stepOk n₀ ann t with
   |false=>rw[hk]at h;symm
   |true=>
    rw[hk]at h;cases hs:stepT (denote tb) p w s t with
    |none=>rw[hs]at h;symm
    |some r=>obtain⟨s₂,t₂⟩:=r;rw[hs]at h;rw[stepT_spec hs];exact zb h
noncomputable def N8:BT->Nat->List Obj->BT
 |t,_,[]=>t
 |t,n,o::os=>N8 (t.ins n o) (n+1) os
noncomputable def DW(P:Params):BT:=N8 .nil 0 (boot_heap P).objs.toList
theorem DX(P:Params):absHeap (DW P) 11 (boot_heap P).life=boot_heap P:=by kernel_rfl
noncomputable abbrev AN (P:Params):Option Value:=(boot_heap P).nsMap mainGlobals "__annotations__"
theorem Ao{p q:Program}{loose:List Str}{Xt:Shared->Bool}{α:Type}{Yf:Shared->α}{Ya:World->α}{N:Nat}{ann:Option Value}
  (e:opening p=plainProg p.main.scope.names) (hN:Nat.ble 600 N=true) (f:∀s,fenceModules? p s=some s) (ha:∀P,AN P=ann)
  (run:∀(w:World) (os:OsState),(JH treeTable p w 11 ann N ⟨DW w.params,11,(boot_heap w.params).life,#[],boot_drawn,boot_toks,os⟩ (topStub p)).map (λs=>
   (staticsOk (importedModules p.main.body) (boot_heap w.params) s.abs.heap&&namesBound p s.abs.heap&&gensDone s.abs&&laidKept (boot_heap w.params) s.abs.heap,openSeen q loose (importedModules p.main.body) Xt true s.abs,Yf s.abs))=some (true,openGood q loose,Ya w)):LeftO p q loose Xt Yf Ya N:=λw=>by
 obtain⟨⟨h,gs,d,k,os⟩,e1,e2⟩:=B2.mp (boot_open e hN f w);obtain⟨rfl,rfl,rfl,rfl⟩:h=boot_heap w.params/\gs=Array.mk []/\d=boot_drawn/\k=boot_toks:=by simpa using e2
 obtain⟨s,r1,r2⟩:=B2.mp (run w os);obtain⟨l1,l2,l3⟩:_/\_/\_:=by simpa only[Prod.mk.injEq]using r2
 have r:=zb r1;unfold openEnds;rw[e1];show (topFrom treeTable p w N _).map _=_;have z0:((boot_heap w.params).isNs mainGlobals&&(Array.mk []:Array GenState).size==0)=true:=by kernel_rfl
 have t:topFrom treeTable p w N ⟨boot_heap w.params,Array.mk [],boot_drawn,boot_toks,os⟩=some s.abs:=by
  unfold topFrom;dsimp only;rw[z0];have r':topRun treeTable p w (boot_heap w.params).objs.size ((boot_heap w.params).nsMap mainGlobals "__annotations__") N ⟨boot_heap w.params,Array.mk [],boot_drawn,boot_toks,os⟩ (topStub p)=some s.abs:=by
   have:=ha w.params;unfold AN at this;rw[this];have z:SharedT.abs ⟨DW w.params,11,(boot_heap w.params).life,#[],boot_drawn,boot_toks,os⟩=⟨boot_heap w.params,Array.mk [],boot_drawn,boot_toks,os⟩:=by unfold SharedT.abs;dsimp only;rw[DX]
   rw[z]at r;exact r
  rw[r'];show (match staticsOk (importedModules p.main.body) (boot_heap w.params) s.abs.heap&&namesBound p s.abs.heap&&gensDone s.abs&&laidKept (boot_heap w.params) s.abs.heap with |true=>_ |false=>_)=_
  rw[l1]
 rw[t];exact congrArg some (Prod.ext l2 l3)
theorem VL(P:Params):AN P=some (.ref 6):=by kernel_rfl
end
end Ev
namespace bJ
open L2 Ev
def st(j:Nat):Stmt:=PySem.Challenge.pw_websbykind_k13_whole_kinds_counted.main.body.getD j (.Pass ⟨0,0,0,0⟩)
noncomputable def de(P:Params)(s:Str)(t:Tok)(v:Value):DictEntry:=⟨PyData.keyHash P s,.str s t,v⟩
noncomputable def co(vs:Array Value):Obj:=⟨.type "code",none,.fields vs,#[]⟩
noncomputable def fo(j:Nat)(n:Str)(kV doc pm:Value)(an:Option Addr)(gg ct:Value):Obj:=⟨.type "function",none,.func (PySem.W.fnOf n n (iW (st j)) (cA (st j)) (aZ (st j)) .none kV doc pm an gg ct),#[]⟩
noncomputable def ce(n:Str)(b a s r t u:Nat):Obj:=⟨.type "type",none,.cls ⟨n,[.ref b],[.ref a,.ref b,.type "ValueError",.type "Exception",.type "BaseException",.type "object"],s,n,true,[],[],false,none,false⟩,#[some (.ref r),none,some (.str n t),some (.str n u),some (.builtin "ValueError.__new__"),some (.bool true)]⟩
def cd(n:Str)(t l p r:Nat)(x y z:Value)(u:Nat):Obj:=co #[.str n t,.str n (t+1),.str "/claim/cut.py" (t+2),.int l 0,.int p 0,.int 0 0,.int 0 0,.int 3 0,.ref r,.bool true,.int 181 0,.ref (r+1),.none,x,y,z,.int u 0,.int l 0,.str "/claim/cut.py" (u+1)]
def fq(j:Nat)(n:Str)(m:Value)(c:Addr):Obj:=fo j n .none .none m none (.ref c) .none
def m0:Value:=.str "websbykind.whole" 271
def m1:Value:=.str "websbykind.kinds" 308
def m2:Value:=.str "websbykind.webs" 370
def m3:Value:=.str "websbykind.pairs" 476
def m4:Value:=.str "websbykind.alike" 542
def m5:Value:=.str "law_websbykind_k13_whole_kinds_counted" 563
def K(P:Params):Frag:=
 (nat_lit 3,⟨.type "dict",none,.dict #[de P "__name__" 165 (.str "law_websbykind_k13_whole_kinds_counted" 563),de P "__doc__" 166 (.none),de P "__package__" 167 (.none),de P "__loader__" 168 (.builtin "__main__.__loader__#opaque"),de P "__spec__" 169 (.none),de P "__annotations__" 170 (.ref 6),de P "__builtins__" 171 (.ref 4),de P "__file__" 173 (.str "/claim/cut.py" 172),de P "__cached__" 174 (.none),de P "KindError" 206 (.ref 24),de P "NoWeb" 222 (.ref 37),de P "NoNumber" 238 (.ref 49),de P "NoTurn" 254 (.ref 61),de P "NoKind" 270 (.ref 73),de P "is_whole" 279 (.ref 82),de P "is_within" 288 (.ref 89),de P "must_be_within" 297 (.ref 96),de P "times_itself" 307 (.ref 103),de P "MOST_NAMES" 311 (.int 9 310),de P "is_kind" 317 (.ref 108),de P "is_falling" 323 (.ref 113),de P "must_be_kind" 331 (.ref 120),de P "all_kinds" 338 (.ref 127),de P "kinds_up_to" 349 (.ref 134),de P "turns_many" 360 (.ref 141),de P "orders_many" 369 (.ref 148),de P "MOST_PLACES" 373 (.int 6 372),de P "is_web" 379 (.ref 153),de P "is_tie" 385 (.ref 158),de P "is_rising" 391 (.ref 163),de P "must_be_web" 398 (.ref 170),de P "is_turn" 404 (.ref 175),de P "must_be_turn" 412 (.ref 182),de P "turned" 420 (.ref 189),de P "led_on" 426 (.ref 194),de P "tie_of" 434 (.ref 201),de P "pairs_of" 440 (.ref 206),de P "tied_places" 446 (.ref 211),de P "rounds_of" 454 (.ref 218),de P "rounds_along" 460 (.ref 223),de P "round_from" 469 (.ref 230),de P "kind_of" 475 (.ref 235),de P "pair_rounds" 485 (.ref 242),de P "rounds_of_pairs" 491 (.ref 247),de P "stands" 499 (.ref 254),de P "pair_lengths" 505 (.ref 259),de P "turn_with" 515 (.ref 266),de P "standing_many" 523 (.ref 273),de P "standing_by_ties" 529 (.ref 278),de P "webs_many" 535 (.ref 283),de P "webs_by_ties" 541 (.ref 288),de P "own_turns" 550 (.ref 295),de P "turns_to" 556 (.ref 300),de P "fits" 562 (.ref 305),de P "_law_cell_at" 572 (.ref 312),de P "_law_state" 581 (.ref 319),de P "_law_take" 591 (.ref 326),de P "_law_pairs" 597 (.ref 331),de P "_law_mixed_row" 607 (.ref 338),de P "_law_web" 613 (.ref 343),de P "_law_turn" 624 (.ref 350),de P "_law_number_right" 630 (.ref 355),de P "_law_turn_right" 636 (.ref 360),de P "law" 642 (.ref 365)] 64,#[]⟩) ::
 (nat_lit 4,⟨.type "module",(some 0),.plain,#[]⟩) ::
 (nat_lit 81,cd "is_whole" 273 13 1 76 (.ref 78) (.ref 79) (.ref 80) 277) ::
 (nat_lit 82,fq 7 "is_whole" m0 81) ::
 (nat_lit 88,cd "is_within" 280 15 3 83 (.ref 85) (.ref 86) (.ref 87) 286) ::
 (nat_lit 89,fq 8 "is_within" m0 88) ::
 (nat_lit 95,cd "must_be_within" 289 17 3 90 (.ref 92) (.ref 93) (.ref 94) 295) ::
 (nat_lit 96,fq 9 "must_be_within" m0 95) ::
 (nat_lit 102,cd "times_itself" 298 20 2 97 (.ref 99) (.ref 100) (.ref 101) 305) ::
 (nat_lit 103,fq 10 "times_itself" m0 102) ::
 (nat_lit 107,cd "is_kind" 312 27 2 104 .none .none (.ref 106) 315) ::
 (nat_lit 108,fq 13 "is_kind" m1 107) ::
 (nat_lit 112,cd "is_falling" 318 34 1 109 .none .none (.ref 111) 321) ::
 (nat_lit 113,fq 14 "is_falling" m1 112) ::
 (nat_lit 119,cd "must_be_kind" 324 36 2 114 (.ref 116) (.ref 117) (.ref 118) 329) ::
 (nat_lit 120,fq 15 "must_be_kind" m1 119) ::
 (nat_lit 126,cd "all_kinds" 332 39 1 121 (.ref 123) (.ref 124) (.ref 125) 336) ::
 (nat_lit 127,fq 16 "all_kinds" m1 126) ::
 (nat_lit 133,cd "kinds_up_to" 339 42 2 128 (.ref 130) (.ref 131) (.ref 132) 347) ::
 (nat_lit 134,fq 17 "kinds_up_to" m1 133) ::
 (nat_lit 140,cd "turns_many" 350 50 2 135 (.ref 137) (.ref 138) (.ref 139) 358) ::
 (nat_lit 141,fq 18 "turns_many" m1 140) ::
 (nat_lit 147,cd "orders_many" 361 56 1 142 (.ref 144) (.ref 145) (.ref 146) 367) ::
 (nat_lit 148,fq 19 "orders_many" m1 147) ::
 (nat_lit 152,cd "is_web" 374 63 1 149 .none .none (.ref 151) 377) ::
 (nat_lit 153,fq 22 "is_web" m2 152) ::
 (nat_lit 157,cd "is_tie" 380 70 2 154 .none .none (.ref 156) 383) ::
 (nat_lit 158,fq 23 "is_tie" m2 157) ::
 (nat_lit 162,cd "is_rising" 386 74 1 159 .none .none (.ref 161) 389) ::
 (nat_lit 163,fq 24 "is_rising" m2 162) ::
 (nat_lit 169,cd "must_be_web" 392 76 1 164 (.ref 166) (.ref 167) (.ref 168) 396) ::
 (nat_lit 170,fq 25 "must_be_web" m2 169) ::
 (nat_lit 174,cd "is_turn" 399 79 2 171 .none .none (.ref 173) 402) ::
 (nat_lit 175,fq 26 "is_turn" m2 174) ::
 (nat_lit 181,cd "must_be_turn" 405 84 2 176 (.ref 178) (.ref 179) (.ref 180) 410) ::
 (nat_lit 182,fq 27 "must_be_turn" m2 181) ::
 (nat_lit 188,cd "turned" 413 87 2 183 (.ref 185) (.ref 186) (.ref 187) 418) ::
 (nat_lit 189,fq 28 "turned" m2 188) ::
 (nat_lit 193,cd "led_on" 421 91 2 190 .none .none (.ref 192) 424) ::
 (nat_lit 194,fq 29 "led_on" m2 193) ::
 (nat_lit 200,cd "tie_of" 427 94 2 195 (.ref 197) (.ref 198) (.ref 199) 432) ::
 (nat_lit 201,fq 30 "tie_of" m2 200) ::
 (nat_lit 205,cd "pairs_of" 435 96 1 202 .none .none (.ref 204) 438) ::
 (nat_lit 206,fq 31 "pairs_of" m2 205) ::
 (nat_lit 210,cd "tied_places" 441 98 2 207 .none .none (.ref 209) 444) ::
 (nat_lit 211,fq 32 "tied_places" m2 210) ::
 (nat_lit 217,cd "rounds_of" 447 104 2 212 (.ref 214) (.ref 215) (.ref 216) 452) ::
 (nat_lit 218,fq 33 "rounds_of" m2 217) ::
 (nat_lit 222,cd "rounds_along" 455 107 2 219 .none .none (.ref 221) 458) ::
 (nat_lit 223,fq 34 "rounds_along" m2 222) ::
 (nat_lit 229,cd "round_from" 461 110 2 224 (.ref 226) (.ref 227) (.ref 228) 467) ::
 (nat_lit 230,fq 35 "round_from" m2 229) ::
 (nat_lit 234,cd "kind_of" 470 115 2 231 .none .none (.ref 233) 473) ::
 (nat_lit 235,fq 36 "kind_of" m2 234) ::
 (nat_lit 241,cd "pair_rounds" 478 118 2 236 (.ref 238) (.ref 239) (.ref 240) 483) ::
 (nat_lit 242,fq 38 "pair_rounds" m3 241) ::
 (nat_lit 246,cd "rounds_of_pairs" 486 121 1 243 .none .none (.ref 245) 489) ::
 (nat_lit 247,fq 39 "rounds_of_pairs" m3 246) ::
 (nat_lit 253,cd "stands" 492 124 2 248 (.ref 250) (.ref 251) (.ref 252) 497) ::
 (nat_lit 254,fq 40 "stands" m3 253) ::
 (nat_lit 258,cd "pair_lengths" 500 126 2 255 .none .none (.ref 257) 503) ::
 (nat_lit 259,fq 41 "pair_lengths" m3 258) ::
 (nat_lit 265,cd "turn_with" 506 129 1 260 (.ref 262) (.ref 263) (.ref 264) 513) ::
 (nat_lit 266,fq 42 "turn_with" m3 265) ::
 (nat_lit 272,cd "standing_many" 516 136 2 267 (.ref 269) (.ref 270) (.ref 271) 521) ::
 (nat_lit 273,fq 43 "standing_many" m3 272) ::
 (nat_lit 277,cd "standing_by_ties" 524 138 2 274 .none .none (.ref 276) 527) ::
 (nat_lit 278,fq 44 "standing_by_ties" m3 277) ::
 (nat_lit 282,cd "webs_many" 530 144 1 279 .none .none (.ref 281) 533) ::
 (nat_lit 283,fq 45 "webs_many" m3 282) ::
 (nat_lit 287,cd "webs_by_ties" 536 147 1 284 .none .none (.ref 286) 539) ::
 (nat_lit 288,fq 46 "webs_by_ties" m3 287) ::
 (nat_lit 294,cd "own_turns" 544 155 1 289 (.ref 291) (.ref 292) (.ref 293) 548) ::
 (nat_lit 295,fq 48 "own_turns" m4 294) ::
 (nat_lit 299,cd "turns_to" 551 158 2 296 .none .none (.ref 298) 554) ::
 (nat_lit 300,fq 49 "turns_to" m4 299) ::
 (nat_lit 304,cd "fits" 557 166 3 301 .none .none (.ref 303) 560) ::
 (nat_lit 305,fq 50 "fits" m4 304) ::
 (nat_lit 311,cd "_law_cell_at" 565 171 2 306 (.ref 308) (.ref 309) (.ref 310) 570) ::
 (nat_lit 312,fq 52 "_law_cell_at" m5 311) ::
 (nat_lit 318,cd "_law_state" 573 175 2 313 (.ref 315) (.ref 316) (.ref 317) 579) ::
 (nat_lit 319,fq 53 "_law_state" m5 318) ::
 (nat_lit 325,cd "_law_take" 582 180 2 320 (.ref 322) (.ref 323) (.ref 324) 589) ::
 (nat_lit 326,fq 54 "_law_take" m5 325) ::
 (nat_lit 330,cd "_law_pairs" 592 189 1 327 .none .none (.ref 329) 595) ::
 (nat_lit 331,fq 55 "_law_pairs" m5 330) ::
 (nat_lit 337,cd "_law_mixed_row" 598 194 2 332 (.ref 334) (.ref 335) (.ref 336) 605) ::
 (nat_lit 338,fq 56 "_law_mixed_row" m5 337) ::
 (nat_lit 342,cd "_law_web" 608 200 2 339 .none .none (.ref 341) 611) ::
 (nat_lit 343,fq 57 "_law_web" m5 342) ::
 (nat_lit 349,cd "_law_turn" 614 214 2 344 (.ref 346) (.ref 347) (.ref 348) 622) ::
 (nat_lit 350,fq 58 "_law_turn" m5 349) ::
 (nat_lit 354,cd "_law_number_right" 625 223 1 351 .none .none (.ref 353) 628) ::
 (nat_lit 355,fq 59 "_law_number_right" m5 354) ::
 (nat_lit 359,cd "_law_turn_right" 631 239 2 356 .none .none (.ref 358) 634) ::
 (nat_lit 360,fq 60 "_law_turn_right" m5 359) ::
 (nat_lit 364,cd "law" 637 246 1 361 .none .none (.ref 363) 640) ::
 (nat_lit 365,fq 61 "law" m5 364)::[]
noncomputable def as:List Addr:=nat_lit 3::nat_lit 4::nat_lit 81::nat_lit 82::nat_lit 88::nat_lit 89::nat_lit 95::nat_lit 96::nat_lit 102::nat_lit 103::nat_lit 107::nat_lit 108::nat_lit 112::nat_lit 113::nat_lit 119::nat_lit 120::nat_lit 126::nat_lit 127::nat_lit 133::nat_lit 134::nat_lit 140::nat_lit 141::nat_lit 147::nat_lit 148::nat_lit 152::nat_lit 153::nat_lit 157::nat_lit 158::nat_lit 162::nat_lit 163::nat_lit 169::nat_lit 170::nat_lit 174::nat_lit 175::nat_lit 181::nat_lit 182::nat_lit 188::nat_lit 189::nat_lit 193::nat_lit 194::nat_lit 200::nat_lit 201::nat_lit 205::nat_lit 206::nat_lit 210::nat_lit 211::nat_lit 217::nat_lit 218::nat_lit 222::nat_lit 223::nat_lit 229::nat_lit 230::nat_lit 234::nat_lit 235::nat_lit 241::nat_lit 242::nat_lit 246::nat_lit 247::nat_lit 253::nat_lit 254::nat_lit 258::nat_lit 259::nat_lit 265::nat_lit 266::nat_lit 272::nat_lit 273::nat_lit 277::nat_lit 278::nat_lit 282::nat_lit 283::nat_lit 287::nat_lit 288::nat_lit 294::nat_lit 295::nat_lit 299::nat_lit 300::nat_lit 304::nat_lit 305::nat_lit 311::nat_lit 312::nat_lit 318::nat_lit 319::nat_lit 325::nat_lit 326::nat_lit 330::nat_lit 331::nat_lit 337::nat_lit 338::nat_lit 342::nat_lit 343::nat_lit 349::nat_lit 350::nat_lit 354::nat_lit 355::nat_lit 359::nat_lit 360::nat_lit 364::nat_lit 365::[]
def as2:List Addr:=nat_lit 362::as
noncomputable def qv:Program:={ PySem.Challenge.pw_websbykind_k13_whole_kinds_counted with main:={ PySem.Challenge.pw_websbykind_k13_whole_kinds_counted.main with body:=[st 1,st 2,st 3,st 4,st 5,st 7,st 8,st 9,st 10,st 12,st 13,st 14,st 15,st 16,st 17,st 18,st 19,st 21,st 22,st 23,st 24,st 25,st 26,st 27,st 28,st 29,st 30,st 31,st 32,st 33,st 34,st 35,st 36,st 38,st 39,st 40,st 41,st 42,st 43,st 44,st 45,st 46,st 48,st 49,st 50,st 52,st 53,st 54,st 55,st 56,st 57,st 58,st 59,st 60,st 61]}}
theorem VM(P:Params):as2=(qO 362 K P).map (·.1):=by kernel_rfl
theorem op:PySem.W.opening PySem.Challenge.rw_websbykind_k13_whole_kinds_counted.row.prog=PySem.W.plainProg PySem.Challenge.rw_websbykind_k13_whole_kinds_counted.row.prog.main.scope.names:=by kernel_rfl
theorem fe:∀s,PySem.fenceModules? PySem.Challenge.rw_websbykind_k13_whole_kinds_counted.row.prog s=some s:=λs=>by kernel_rfl
theorem hl:PySem.W.LeftO PySem.Challenge.rw_websbykind_k13_whole_kinds_counted.row.prog qv [] (λs=>PySem.W.xlAt qv [] s&&PySem.W.recOk (PySem.W.OpenRow.toRowW PySem.Challenge.rw_websbykind_k13_whole_kinds_counted.row).records s) (λs=>as2.map s.heap.get?) (λw=>(qO 362 K w.params).map λp:Nat×Obj=>some p.2) 8000:=Ao op ⋯ fe VL λw os=>by kernel_rfl
end bJ
namespace Ev
open PySem PySem.W
end Ev
namespace L2
abbrev Key:=Sum Int Str
noncomputable def qP:Key->Value->Bool
 |.inl k,v=>Value.isInt k v
 |.inr x,v=>Value.isStrOf x v
noncomputable def keyH(w:World):Key->Int
 |.inl k=>hashInt k
 |.inr x=>hashStr w x
theorem bF:∀{k:Key}{v:Value},qP k v=true->(∃i t,k=Sum.inl i/\v=Value.int i t)\/(∃x t,k=Sum.inr x/\v=Value.str x t)
 |.inl i,v,h=>by
  obtain⟨t,e⟩:=Value.isInt_shape (k:=i) (v:=v) h;exact .inl ⟨i,t,rfl,e⟩
 |.inr x,v,h=>by
  obtain⟨t,e⟩:=Value.isStrOf_shape (x:=x) (v:=v) h;exact .inr ⟨x,t,rfl,e⟩
theorem Aq(i:Int)(t:Tok):qP (.inl i) (.int i t)=true:=by simp[qP,Value.isInt]
theorem Ar(x:Str)(t:Tok):qP (.inr x) (.str x t)=true:=by simp[qP,Value.isStrOf]
theorem PK(a b:Int):decide ((Sum.inl a:Key)=Sum.inl b)=(a==b):=by
 by_cases e:a=b
 . subst e;simp
 .
  have h : ¬ (Sum.inl a:Key)=Sum.inl b:=λq=>e (Sum.inl.inj q)
  rw[pV h];exact (beq_eq_false_iff_ne.mpr e).symm
theorem PL(a b:Str):decide ((Sum.inr a:Key)=Sum.inr b)=decide (a=b):=by
 by_cases e:a=b
 . subst e;simp
 .
  have h : ¬ (Sum.inr a:Key)=Sum.inr b:=λq=>e (Sum.inr.inj q)
  rw[pV h,pV e]
theorem PN(a:Int)(b:Str):decide ((Sum.inl a:Key)=Sum.inr b)=false:=pV (λq=>nomatch q)
theorem PX(a:Str)(b:Int):decide ((Sum.inr a:Key)=Sum.inl b)=false:=pV (λq=>nomatch q)
def gX(prog:Program)(w:World):PySem.KeyKind prog w Key where
 is:=qP
 hash:=keyH w
 inj:=λv a b ha hb=>by
  rcases bF ha with ⟨i,t,rfl,rfl⟩ |⟨x,t,rfl,rfl⟩
  .
   rcases bF hb with ⟨j,u,rfl,e⟩ |⟨y,u,rfl,e⟩
   . injection e with e1 _;rw[e1]
   . exact nomatch e
  .
   rcases bF hb with ⟨j,u,rfl,e⟩ |⟨y,u,rfl,e⟩
   . exact nomatch e
   . injection e with e1 _;rw[e1]
 byValue:=λk v h=>by
  rcases bF h with ⟨i,t,rfl,rfl⟩ |⟨x,t,rfl,rfl⟩ <;> rfl
 pyHash:=λhv h=>by
  rcases bF hv with ⟨i,t,rfl,rfl⟩ |⟨x,t,rfl,rfl⟩
  . exact wpAny_pyHash_int h
  . exact wpAny_pyHash_str h
 eqBool:=λhu hv h=>by
  rcases bF hu with ⟨i,t,rfl,rfl⟩ |⟨x,t,rfl,rfl⟩
  .
   rcases bF hv with ⟨j,u,rfl,rfl⟩ |⟨y,u,rfl,rfl⟩
   . rw[PK]at h;exact wpAny_eqBool_int h
   . rw[PN]at h;exact SeqAt.EqAt.int_str i t y u _ _ _ _ h
  .
   rcases bF hv with ⟨j,u,rfl,rfl⟩ |⟨y,u,rfl,rfl⟩
   . rw[PX]at h;exact SeqAt.EqAt.str_int x t j u _ _ _ _ h
   . rw[PL]at h;exact wpAny_eqBool_str h
 «strs»:=λk x t v h=>by
  rcases bF h with ⟨i,u,rfl,e⟩ |⟨y,u,rfl,e⟩
  . exact nomatch e
  . injection e with e1 _;subst e1;cases v <;> rfl
theorem uR(prog:Program)(w:World)(i:Int)(t:Tok):(gX prog w).is (.inl i) (.int i t)=true:=Aq i t
theorem uS(prog:Program)(w:World)(x:Str)(t:Tok):(gX prog w).is (.inr x) (.str x t)=true:=Ar x t
inductive V where
 |non |bl (b:Bool) |int (i:Int) |str (x:Str) |P0 (b:Array UInt8) |flt (b:UInt64) |ref (a:Addr) |ty (n:String)
 deriving DecidableEq
noncomputable def RelV:V->Value->Prop
 |.non,u=>u=Value.none
 |.bl b,u=>u=Value.bool b
 |.int i,u=>∃t,u=Value.int i t
 |.str x,u=>∃t,u=Value.str x t
 |.P0 b,u=>∃t,u=Value.bytes b t
 |.flt b,u=>∃t,u=Value.float b t
 |.ref a,u=>u=Value.ref a
 |.ty n,u=>u=Value.type n
abbrev Vals:List V->List Value->Prop:=Paired RelV
theorem Vals.length{xs:List V}{us:List Value}(r:Vals xs us):xs.length=us.length:=Paired.length r
theorem Vals.get:∀{xs:List V}{us:List Value}{i:Nat}{x:V},Vals xs us->xs[i]?=some x->∃u,us[i]?=some u/\RelV x u
 |_,_,_,_,.nil,e=>by simp at e
 |_,_,0,_,.cons r _,e=>by simp at e;subst e;exact⟨_,rfl,r⟩
 |_,_,i+1,x,.cons _ t,e=>by
  obtain⟨u,h1,h2⟩:=Vals.get (i:=i) (x:=x) t (by simpa using e)
  exact⟨u,by simpa using h1,h2⟩
theorem Vals.set{x:V}{u:Value}(r:RelV x u):∀{xs:List V}{us:List Value} (i:Nat),Vals xs us->Vals (xs.set i x) (us.set i u)
 |_,_,_,.nil=>.nil
 |_,_,0,.cons _ t=>.cons r t
 |_,_,i+1,.cons q t=>.cons q (Vals.set r i t)
theorem Vals.append:∀{xs ys:List V}{us ws:List Value},Vals xs us->Vals ys ws->Vals (xs++ys) (us++ws)
 |_,_,_,_,.nil,s=>s
 |_,_,_,_,.cons r t,s=>.cons r (Vals.append t s)
theorem Vals.take:∀{xs:List V}{us:List Value} (n:Nat),Vals xs us->Vals (xs.take n) (us.take n)
 |_,_,0,_=>.nil
 |_,_,_+1,.nil=>.nil
 |_,_,n+1,.cons r t=>.cons r (Vals.take n t)
theorem Vals.drop:∀{xs:List V}{us:List Value} (n:Nat),Vals xs us->Vals (xs.drop n) (us.drop n)
 |_,_,0,r=>r
 |_,_,_+1,.nil=>.nil
 |_,_,n+1,.cons _ t=>Vals.drop n t
def VN:Option V->Option Value->Prop
 |some v,some u=>RelV v u
 |none,none=>True
 |_,_=>False
def KV{κ:Type}:List (κ×V)->List (κ×Value)->Prop:=Paired λ(p:κ×V) (q:κ×Value)=>p.1=q.1/\RelV p.2 q.2
noncomputable def kV:Key->V
 |.inl i=>.int i
 |.inr x=>.str x
inductive HO where
 |lst (xs:List V)
 |tup (xs:List V)
 |dK (eH:List (Key×V)) |dT (eH:List (List Key×V))
 |set (S:Int->Bool) (n:Nat)
 |ins (C dx:Addr) (fs:List (Str×V))
 |own (x:Addr)
 |xd (fs:List (Str×V))
 |met (f x:Addr)
 |rng (lo hi:Int)
 |Ds (o:Obj) (u:HO)
 |Dt (ps:Array Value)
 |ext (φ:Heap->Prop)
abbrev Hp:=Addr->Option HO
noncomputable def upd(H:Hp)(a:Addr)(o:HO):Hp:=λb=>if b=a then some o else H b
theorem aG:upd H a o a=some o:=by unfold upd;rw[fN rfl]
theorem aC(h:b≠a):upd H a o b=H b:=by unfold upd;rw[hU h]
theorem aO{H:Hp}{a b:Addr}{o:HO}(h:H a=some o)(h':H b=none):a≠b:=by intro e;subst e;rw[h]at h';cases h'
def gi(h:Heap)(a:Addr)(its:Array Value):Prop:=∃o,h.get? a=some o/\(o.cls=.type "tuple" /\∃n,o.data=.seq its n)/\o.dict=none
theorem gi.tup{h:Heap}{a:Addr}{its:Array Value}(x:gi h a its):IsTup h a its:=let ⟨o,e,c,_⟩:=x;⟨o,e,c⟩
theorem gi.new(h:Heap)(its:Array Value):gi (h.push { cls:=.type "tuple",data:=.seq its}) h.objs.size its:=⟨_,eJ _ rfl,⟨rfl,_,rfl⟩,rfl⟩
section
variable(P:Program)(w:World)
def d9(H:Hp)(h:Heap)(a:Addr):HO->Prop
 |.lst xs=>xs.length<=sizeLine/\∃(its:List Value) (n:Nat),Vals xs its/\h.get? a=some { cls:=.type "list",data:=.seq its.toArray n}
 |.tup xs=>xs.length<=sizeLine/\∃its:List Value,Vals xs its/\gi h a its.toArray
 |.dK eH=>eH.length<=sizeLine/\(a==sysModules)=false/\∃vs,KV eH vs/\h.DictOf (gX P w) a vs
 |.dT eH=>eH.length<=sizeLine/\(a==sysModules)=false/\∃xs:List (List Key×Addr×Value),
   Paired (λ(p:List Key×V) (q:List Key×Addr×Value)=>p.1=q.1/\H q.2.1=some (.tup (p.1.map kV))/\RelV p.2 q.2.2) eH xs/\
   ∃o es ep,h.get? a=some o/\o.ExactDict/\o.data=.dict es ep/\es.toList=xs.map (entryOfKey (tupleKind (gX P w)))/\(xs.map (·.1)).Nodup
 |.set S n=>h.SetOf (intKind P w) a S n
 |.ins C dx fs=>H dx=some (.own a)/\fs.length<=1000/\dx≠a/\h.get? a=some (PySem.W.instObj C dx)/\
   ∃mA,h.Ns1 dx mA/\(∀f,VN (fs.lookup f) (mA f))/\PySem.Within mA (fs.map (·.1))
 |.own _=>∃o,h.get? a=some o
 |.xd fs=>∃mA,h.Ns1 a mA/\∀f,VN (fs.lookup f) (mA f)
 |.rng lo hi=>∃t u v,h.get? a=some { cls:=.type "range",data:=.fields #[.int lo t,.int hi u,.int 1 v]}
 |.Ds o u=>h.get? a=some o/\d9 H h a u
 |.Dt ps=>h.get? a=some { cls:=.none,data:=.fields ps}
 |.met f x=>h.get? a=some (PySem.W.methodObj (.ref f) (.ref x))
 |.ext φ=>φ h/\(∃o,h.get? a=some o)/\∀h1 h2:Heap,φ h1->(∀o,h1.get? a=some o->h2.get? a=some o)->φ h2
def n5(H:Hp)(h:Heap):Prop:=∀a o,H a=some o->d9 P w H h a o
end
section
variable{P:Program}{w:World}{H H':Hp}{h h':Heap}{a:Addr}{o:HO}
theorem d9.lt(x:d9 P w H h a o):a<h.objs.size:=by
 cases o with
 |lst xs=>obtain⟨_,_,_,_,e⟩:=x;exact eR e
 |tup xs=>obtain⟨_,_,_,_,e,_⟩:=x;exact eR e
 |dK eH=>obtain⟨_,_,_,_,o,_,_,e,_⟩:=x;exact eR e
 |dT eH=>obtain⟨_,_,_,_,o,_,_,e,_⟩:=x;exact eR e
 |set S n=>obtain⟨o,_,_,_,e,_⟩:=x;exact eR e
 |ins C dx fs=>obtain⟨_,_,_,e,_⟩:=x;exact eR e
 |own y=>obtain⟨_,e⟩:=x;exact eR e
 |xd fs=>obtain⟨_,⟨_,_,_,e,_⟩,_⟩:=x;exact eR e
 |rng lo hi=>obtain⟨_,_,_,e⟩:=x;exact eR e
 |Ds ob u=>obtain⟨e,_⟩:=x;exact eR e
 |Dt ps=>exact eR (show h.get? a=some _ from x)
 |met f y=>exact eR (show h.get? a=some _ from x)
 |ext φ=>obtain⟨_,⟨_,e⟩,_⟩:=x;exact eR e
theorem Paired.P1{α β:Type}{F G:α->β->Prop}:∀{l₁:List α}{l₂:List β},Paired F l₁ l₂->(∀a b,F a b->G a b)->Paired G l₁ l₂
 |_,_,.nil,_=>.nil
 |_,_,.cons r t,f=>.cons (f _ _ r) (Paired.P1 t f)
theorem d9.stay(x:d9 P w H h a o)(k:∀b u,(b=a\/H b=some (.own a))->h.get? b=some u->h'.get? b=some u)
  (ho:∀b,H b=some (.own a)->H' b=some (.own a)) (ht:∀b xs,H b=some (.tup xs)->H' b=some (.tup xs)):d9 P w H' h' a o:=by
 induction o with
 |lst xs=>obtain⟨z,its,n,r,e⟩:=x;exact⟨z,its,n,r,k _ _ (.inl rfl) e⟩
 |tup xs=>obtain⟨z,its,r,ob,e,c⟩:=x;exact⟨z,its,r,ob,k _ _ (.inl rfl) e,c⟩
 |dK eH=>obtain⟨z,y,vs,r,ob,es,ep,e,c⟩:=x;exact⟨z,y,vs,r,ob,es,ep,k _ _ (.inl rfl) e,c⟩
 |dT eH=>obtain⟨z,y,xs,r,ob,es,ep,e,c⟩:=x;exact⟨z,y,xs,Paired.P1 r λp q z=>⟨z.1,ht _ _ z.2.1,z.2.2⟩,ob,es,ep,k _ _ (.inl rfl) e,c⟩
 |set S n=>obtain⟨ob,es,ep,t,e,c⟩:=x;exact⟨ob,es,ep,t,k _ _ (.inl rfl) e,c⟩
 |ins C dx fs=>obtain⟨d,z,ne,e,mA,⟨od,es,ep,e2,c⟩,r⟩:=x;exact⟨ho _ d,z,ne,k _ _ (.inl rfl) e,mA,⟨od,es,ep,k _ _ (.inr d) e2,c⟩,r⟩
 |own y=>obtain⟨ob,e⟩:=x;exact⟨ob,k _ _ (.inl rfl) e⟩
 |xd fs=>obtain⟨mA,⟨od,es,ep,e,c⟩,r⟩:=x;exact⟨mA,⟨od,es,ep,k _ _ (.inl rfl) e,c⟩,r⟩
 |rng lo hi=>obtain⟨t,u,v,e⟩:=x;exact⟨t,u,v,k _ _ (.inl rfl) e⟩
 |Ds ob u ih=>obtain⟨e,q⟩:=x;exact⟨k _ _ (.inl rfl) e,ih q⟩
 |Dt ps=>have e:h.get? a=some { cls:=.none,data:=.fields ps}:=x;show h'.get? a=some { cls:=.none,data:=.fields ps};exact k a _ (.inl rfl) e
 |met f y=>have e:h.get? a=some (PySem.W.methodObj (.ref f) (.ref y)):=x;show h'.get? a=some (PySem.W.methodObj (.ref f) (.ref y));exact k a _ (.inl rfl) e
 |ext φ=>obtain⟨p,⟨o,e⟩,st⟩:=x;exact⟨st _ _ p λo q=>k _ _ (.inl rfl) q,⟨o,k _ _ (.inl rfl) e⟩,st⟩
theorem n5.lt(x:n5 P w H h)(e:H a=some o):a<h.objs.size:=(x a o e).lt
theorem n5.fresh(x:n5 P w H h)(e:h.objs.size<=a):H a=none:=by
 cases q:H a with
 |none=>rfl
 |some u=>exact absurd (fA (x.lt q) e) (mP _)
theorem n5.kept(x:n5 P w H h)(k:∀b u,h.get? b=some u->h'.get? b=some u):n5 P w H h':=λa o e=>
 (x a o e).stay (λb u _ q=>k b u q) (λ_ q=>q) λ_ _ q=>q
theorem n5.laid(x:n5 P w H h)(k:∀b u,h.get? b=some u->h'.get? b=some u)(hp:h.objs.size<=a)(new:d9 P w (upd H a o) h' a o):n5 P w (upd H a o) h':=λb u e=>by
 have hn:=x.fresh hp;by_cases hb:b=a
 . subst hb;rw[aG]at e;cases e;exact new
 . rw[aC hb]at e;exact (x b u e).stay (λc v _ q=>k c v q) (λc q=>by rw[aC (aO q hn)];exact q) λc xs q=>by rw[aC (aO q hn)];exact q
end
def Rd(H:Hp)(a:Addr)(u:HO):Prop:=H a=some u\/∃o,H a=some (.Ds o u)
theorem Rd.ok{P:Program}{w:World}{H:Hp}{h:Heap}{a:Addr}{u:HO}(r:Rd H a u)(x:n5 P w H h):d9 P w H h a u:=by
 rcases r with r |⟨o,r⟩
 . exact x a u r
 . obtain⟨_,q⟩:=x a _ r;exact q
noncomputable def Zi:Option HO->Prop
 |some (.lst _)=>True
 |some (.dK _)=>True
 |some (.dT _)=>True
 |some (.set _ _)=>True
 |some (.ins _ _ _)=>True
 |some (.ext _)=>True
 |_=>False
section
variable{P:Program}{w:World}{H:Hp}{h h':Heap}{x e:Addr}{o':HO}
theorem n5.write(ok:n5 P w H h)(mu:Zi (H x))(he:e=x\/H e=some (.own x))(k:∀b u,b≠e->h.get? b=some u->h'.get? b=some u)(U9:∃u,h'.get? e=some u)
  (new:d9 P w (upd H x o') h' x o'):n5 P w (upd H x o') h':=λb u q=>by
 have VP:∀c y,H c=some (.own y)->c≠x:=λc y r z=>by subst z;rw[r]at mu;exact mu
 have ntup:∀c xs,H c=some (.tup xs)->c≠x:=λc xs r z=>by subst z;rw[r]at mu;exact mu
 by_cases hb:b=x
 . subst hb;rw[aG]at q;cases q;exact new
 .
  rw[aC hb]at q;by_cases P4:b=e
  .
   have q':H b=some (.own x):=by
    rcases he with z |z
    . exact absurd (P4.trans z) hb
    . rw[P4];exact z
   rw[q]at q';cases q';obtain⟨v,hv⟩:=U9;exact⟨v,by rw[P4];exact hv⟩
  .
   refine (ok b u q).stay (λc v hc r=>k c v ?_ r) (λc r=>by rw[aC (VP c b r)];exact r) λc xs r=>by rw[aC (ntup c xs r)];exact r
   rcases hc with rfl |hc
   . exact P4
   .
    rintro rfl;rcases he with z |z
    . exact VP c b hc z
    . rw[hc]at z;cases z;exact hb rfl
end
structure Un(fs ex:List Addr)(H H':Hp)(h h':Heap):Prop where
 keep:∀b o,h.get? b=some o->H b=none->b∉fs->b∉ex->h'.get? b=some o
 slot:∀b o,h.get? b=some o->H b=none->b∈fs->b∉ex->∃sl,h'.get? b=some { o with slots:=sl}
 free:∀b o,h.get? b=some o->H b=none->b∉ex->H' b=none
 there:∀b o,h.get? b=some o->b∉ex->∃o',h'.get? b=some o'
 tups:∀b xs,H b=some (.tup xs)->H' b=some (.tup xs)
 sF:∀b o u,H b=some (.Ds o u)->H' b=some (.Ds o u)
 sG:∀b ps,H b=some (.Dt ps)->∃more,H' b=some (.Dt (ps++more))
section
variable{fs fs' ex ex':List Addr}{H H1 H2:Hp}{h h1 h2 h':Heap}{a x e:Addr}{o:HO}
theorem Un.any(u:Un fs ex H H1 h h1){b:Addr}{ob:Obj}(q:h.get? b=some ob)(n:H b=none)(hx:b∉ex):∃sl,h1.get? b=some { ob with slots:=sl}:=by
 by_cases hb:b∈fs
 . exact u.slot b ob q n hb hx
 . exact⟨ob.slots,u.keep b ob q n hb hx⟩
theorem Un.kept(k:∀b u,h.get? b=some u->h'.get? b=some u):Un fs ex H H h h':=
 ⟨λb ob q _ _ _=>k b ob q,λb ob q _ _ _=>⟨ob.slots,k b ob q⟩,λ_ _ _ n _=>n,λb ob q _=>⟨ob,k b ob q⟩,λ_ _ q=>q,λ_ _ _ q=>q,λ_ ps q=>⟨#[],by rw[q];simp⟩⟩
theorem Un.refl:Un fs ex H H h h:=Un.kept λ_ _ q=>q
theorem Un.laid(k:∀b u,h.get? b=some u->h'.get? b=some u)(hp:h.objs.size<=a)(hn:H a=none):Un fs ex H (upd H a o) h h' where
 keep:=λb u q _ _ _=>k b u q
 slot:=λb u q _ _ _=>⟨u.slots,k b u q⟩
 free:=λb u q n _=>by rw[aC (l4 (fA (eR q) hp))];exact n
 there:=λb u q _=>⟨u,k b u q⟩
 tups:=λb xs q=>by rw[aC (aO q hn)];exact q
 sF:=λb u xs q=>by rw[aC (aO q hn)];exact q
 sG:=λb ps q=>⟨#[],by rw[aC (aO q hn),q];simp⟩
theorem Un.write(mu:Zi (H x))(he:e=x\/H e=some (.own x))(k:∀b u,b≠e->h.get? b=some u->h'.get? b=some u)(U9:∃u,h'.get? e=some u):Un fs ex H (upd H x o) h h':=by
 have hx:∀b,H b=none->b≠x:=λb n z=>by subst z;rw[n]at mu;exact mu
 have hb:∀b,H b=none->b≠e:=λb n z=>by
  subst z;rcases he with r |r
  . exact hx b n r
  . rw[n]at r;cases r
 have hm:∀b u,H b=some u->¬ Zi (some u)->b≠x:=λb u q nm z=>by subst z;rw[q]at mu;exact nm mu
 refine⟨λb u q n _ _=>k b u (hb b n) q,λb u q n _ _=>⟨u.slots,k b u (hb b n) q⟩,λb u q n _=>by rw[aC (hx b n)];exact n,λb u q _=>?_,
  λb xs q=>by rw[aC (hm b _ q λz=>z)];exact q,λb u xs q=>by rw[aC (hm b _ q λz=>z)];exact q,λb ps q=>⟨#[],by rw[aC (hm b _ q λz=>z),q];simp⟩⟩
 by_cases P4:b=e
 . subst P4;exact U9
 . exact⟨u,k b u P4 q⟩
end
noncomputable def Zj(h:Heap)(H:Hp):List Addr:=(List.range h.objs.size).filter λa=>(H a).isSome
def sH(h:Heap)(H:Hp):Heap:=PySem.W.hideAll h (Zj h H)
theorem Au(h:Heap)(H:Hp):(sH h H).objs.size=h.objs.size:=PySem.W.hideAll_size _ _
theorem DY(e:h.get? b=some o)(n:H b=none):(sH h H).get? b=some o:=
 PySem.W.hideAll_get _ e λhm=>by
  have q:(H b).isSome=true:=(i9.mp hm).2;rw[n]at q;simp at q
theorem JK(e:(sH h H).get? b=some o):h.get? b=some o/\H b=none:=by
 have e':h.get? b=some o:=PySem.W.of_hideAll (Zj h H) e;refine⟨e',?_⟩;cases q:H b with
 |none=>rfl
 |some x=>
  have hm:b∈Zj h H:=i9.mpr ⟨mI.mpr (eR e'),by simp[q]⟩
  have z:(sH h H).get? b=none:=PySem.W.hideAll_none (Zj h H) hm;rw[z]at e;cases e
noncomputable def JL(g h:Heap)(qqz:Addr): ~~~1:=(List.range h.objs.size).filterMap λa=>if a=qqz\/(g.get? a).isSome=true then none else (h.get? a).map λo=>(a,o)
def rest(g h:Heap)(qqz d:Addr): ~~~1:=(JL g h qqz).filter λp=>decide (p.1≠d)
structure Mod(K:Frag)(mg:Str->Option Value)(base:Heap):Prop where
 Zk:K.In base
 glob:base.Ns mainGlobals mg
 blt:∃mb,base.Ns builtinsNs mb/\∀x:Str,x≠ "__name__" ->mb x=bootBuiltins x
 nolimit:base.NoLimit
structure Cx where
 prog:Program
 w:World
 K:Frag
 mg:Str->Option Value
 base:Heap
 A:Around
 N:List Str
 s₀:Shared
 H₀:Hp
 env:Env
 outer:List Env
 stack:List Env
 ex:List Addr
 fn:Str->Bool
 calm:Bool
 pn:List (Addr×Obj)
 xe:Value->Shared->Prop
def frs(l:List Env):List Addr:=l.filterMap (·.frame)
abbrev Cx.fs(X:Cx):List Addr:=frs X.outer
def mq(sc:Scope)(x:Str):Prop:=sc.names.lookup x=some .local\/sc.names.lookup x=some .cell\/sc.names.lookup x=some .free
def Loc(sc:Scope)(x:Str):Prop:=sc.names.lookup x=some .local\/sc.names.lookup x=some .cell
def Look(env:Env)(h:Heap)(m:Str->Option Value)(x:Str)(u:Value):Prop:=
 (env.kindOf x=some .local/\m x=some u)\/((env.kindOf x=some .cell\/env.kindOf x=some .free)/\∃c,env.cells.lookup x=some c/\h.IsCell c (some u))
structure Cx.Ok(X:Cx):Prop where
 mod:Mod X.K X.mg X.base
 kind:X.env.scope.kind=.function
 glob:X.env.globals=mainGlobals
 blt:X.env.builtins=builtinsNs
 above:X.s₀⁻¹<=X.env.locals
 inj:∀x y c,X.env.cells.lookup x=some c->X.env.cells.lookup y=some c->x=y
 has:∀x,(X.env.kindOf x=some .cell\/X.env.kindOf x=some .free)->∃c,X.env.cells.lookup x=some c
 Va:∀x c,X.fn x=true->X.env.cells.lookup x=some c->X.s₀⁻¹<=c
 hd:X.calm=true->X.A.handled=none
 frames:X.A.frames=some X.stack
 stk:X.stack=X.outer\/(X.stack=X.env::X.outer/\X.env.frame=some X.env.locals)
 VR:∀b∈X.ex,b≠X.env.locals/\∀x c,X.env.cells.lookup x=some c->c≠b
 bs:∀b o,X.base.get? b=some o->X.s₀.heap.get? b=some o/\X.H₀ b=none
 JM:X.base.objs.size<=X.s₀⁻¹
 xE:∀b o,X.base.get? b=some o->b∉X.ex
 Av:∀b∈X.ex,b∉X.fs
 nj:X.s₀.heap.FunFrames X.base X.outer
 P5:∀b∈X.fs,X.H₀ b=none
structure Inv(X:Cx)(L: ~~~1)(Y:List (Option V))(H:Hp)(s:Shared):Prop where
 ok:X.Ok
 os:s.os=X.s₀.os
 bare:AllBare s.gens
 base:Un X.fs X.ex X.H₀ H X.s₀.heap s.heap
 loc:∃m,s.heap.Ns X.env.locals m/\∀(i:Nat) (x:Str) (v:V),X.N[i]?=some x->Y[i]?=some (some v)->mq X.env.scope x->∃u,RelV v u/\Look X.env s.heap m x u
 cell:∀x c,X.env.cells.lookup x=some c->∃v,s.heap.IsCell c v
 free:H X.env.locals=none
 jo:∀x c,X.env.cells.lookup x=some c->H c=none
 pin:∀p∈X.pn++L,s.heap.get? p.1=some p.2/\H p.1=none/\p.1≠X.env.locals/\p.1∉X.fs/\∀v,p.2.data≠.cell v
 hok:n5 X.prog X.w H s.heap
 len:Y.length=X.N.length
section
variable{X:Cx}{L: ~~~1}{Y:List (Option V)}{H H':Hp}{s:Shared}{h':Heap}
theorem Cx.Ok.nofr(ok:X.Ok)(e:X.base.get? b=some o):b∉X.fs:=λhb=>by
 have:=(ok.nj.mem hb).1;rw[e]at this;cases this
theorem Inv.bs(I: ~~~7):∀b o,X.base.get? b=some o->s.heap.get? b=some o/\H b=none:=λb o e=>
 ⟨I.base.keep b o (I.ok.bs b o e).1 (I.ok.bs b o e).2 (I.ok.nofr e) (I.ok.xE b o e),I.base.free b o (I.ok.bs b o e).1 (I.ok.bs b o e).2 (I.ok.xE b o e)⟩
theorem Inv.bk(I: ~~~7):∀b o,X.base.get? b=some o->s.heap.get? b=some o:=λb o e=>(I.bs b o e).1
theorem Inv.mod(I: ~~~7):Mod X.K X.mg X.base:=I.ok.mod
theorem Inv.uT(I: ~~~7):X.K.In s.heap:=I.ok.mod.Zk.keeps I.bk
theorem Inv.lt(I: ~~~7):X.env.locals<s⁻¹:=let ⟨_,hn,_⟩:=I.loc;hn.lt
theorem Inv.sz(I: ~~~7):X.s₀⁻¹<=s⁻¹:=kA I.ok.above (Nat.le_of_lt I.lt)
theorem Inv.nofs(I: ~~~7)(h:s⁻¹<=a):a∉X.fs:=λhb=>by
 obtain⟨_,o,ho,_⟩:=I.ok.nj.mem hb;exact absurd (fA (eR ho) (kA I.sz h)) (mP _)
theorem Inv.P6(I: ~~~7):∀x c,X.env.cells.lookup x=some c->c≠X.env.locals:=λx c e z=>by
 obtain⟨v,o,ho,hd⟩:=I.cell x c e;obtain⟨m,⟨o',es,ep,ho',hd',_⟩,_⟩:=I.loc;rw[z,ho']at ho;cases ho;rw[hd']at hd;cases hd
theorem Inv.nj(I: ~~~7):s.heap.FunFrames X.base X.outer:=by
 have all:∀(l:List Env),(∀b∈frs l,b∈X.fs)->X.s₀.heap.FunFrames X.base l->s.heap.FunFrames X.base l:=by
  intro l
  induction l with
  |nil=>intro _ _;trivial
  |cons env r ih=>
   intro hs hl;obtain⟨hk,⟨qqz,o,hf,hn,ho,hd⟩,hr⟩:=hl;have hL:qqz∈X.fs:=hs qqz (by unfold frs;rw[Ap,hf];exact c8)
   obtain⟨sl,e⟩:=I.base.slot qqz o ho (I.ok.P5 qqz hL) hL λz=>I.ok.Av qqz z hL
   exact⟨hk,⟨qqz,_,hf,hn,e,hd⟩,ih (λb hb=>hs b (by unfold frs;rw[Ap,hf];exact bP _ hb)) hr⟩
 exact all X.outer (λ_ hb=>hb) I.ok.nj
theorem Inv.stack(I: ~~~7):s.heap.FunFrames X.base X.stack:=by
 rcases I.ok.stk with e |⟨e,hf⟩
 . rw[e];exact I.nj
 .
  rw[e];obtain⟨m,hn,_⟩:=I.loc;refine .cons (by rw[I.ok.kind];decide) hf hn ?_ I.nj
  exact Heap.get?_none_of_le (kA I.ok.JM I.ok.above)
theorem Inv.xF(I: ~~~7):∀b∈frs X.stack,b∈X.env.locals::X.fs:=λb hb=>by
 rcases I.ok.stk with e |⟨e,hf⟩
 . rw[e]at hb;exact bP _ hb
 . rw[e]at hb;unfold frs at hb;rw[Ap,hf]at hb;exact hb
theorem Inv.zc(I: ~~~7):∀b∈frs X.stack,H b=none:=λb hb=>by
 rcases d6.mp (I.xF b hb)with e |hb
 . rw[e];exact I.free
 . obtain⟨_,o,ho,_⟩:=I.ok.nj.mem hb;exact I.base.free b o ho (I.ok.P5 b hb) λz=>I.ok.Av b z hb
theorem Inv.step{g':Array GenState}{t':Nat}{d':Drawn}{ch:List Addr}(I: ~~~7)
  (hch:∀b∈ch,(b∈X.ex\/X.s₀⁻¹<=b)/\b≠X.env.locals/\(∀x c,X.env.cells.lookup x=some c->c≠b)/\∀p∈X.pn++L,p.1≠b)
  (keep:∀b o,b≠X.env.locals->b∉X.fs->b∉ch->s.heap.get? b=some o->H b=none->h'.get? b=some o)
  (slot:∀b o,b≠X.env.locals->b∈X.fs->b∉ch->s.heap.get? b=some o->H b=none->∃sl,h'.get? b=some { o with slots:=sl}) (free:∀b o,b∉ch->s.heap.get? b=some o->H b=none->H' b=none)
  (there:∀b o,b∉ch->s.heap.get? b=some o->∃o',h'.get? b=some o')
  (tups:∀b xs,H b=some (.tup xs)->H' b=some (.tup xs)) (sF:∀b o u,H b=some (.Ds o u)->H' b=some (.Ds o u)) (sG:∀b ps,H b=some (.Dt ps)->∃more,H' b=some (.Dt (ps++more)))
  (ns:∀m,s.heap.Ns X.env.locals m->h'.Ns X.env.locals m) (hok:n5 X.prog X.w H' h') (hg:AllBare g') :
  Inv X L Y H' { s with heap:=h',gens:=g',drawn:=d',toks:=t'}:=by
 have neL:∀b o,X.s₀.heap.get? b=some o->b≠X.env.locals:=λb o e=>l4 (fA (eR e) I.ok.above)
 have Zm:∀b o,X.s₀.heap.get? b=some o->b∉X.ex->b∉ch:=λb o e hx hb=>by
  rcases (hch b hb).1 with z |z
  . exact hx z
  . exact absurd (fA (eR e) z) (mP _)
 have cellK:∀x c,X.env.cells.lookup x=some c->∀v,s.heap.IsCell c v->h'.IsCell c v:=λx c e v ⟨o,ho,hd⟩=>by
  have V0:c∉ch:=λz=>(hch c z).2.2.1 x c e rfl
  by_cases hc:c∈X.fs
  . obtain⟨sl,q⟩:=slot c o (I.P6 x c e) hc V0 ho (I.jo x c e);exact⟨_,q,hd⟩
  . exact⟨o,keep c o (I.P6 x c e) hc V0 ho (I.jo x c e),hd⟩
 refine⟨I.ok,I.os,hg,⟨λb o e n hb hx=>?_,λb o e n hb hx=>?_,λb o e n hx=>?_,λb o e hx=>?_,λb xs e=>tups b xs (I.base.tups b xs e),λb o xs e=>sF b o xs (I.base.sF b o xs e),λb ps e=>?_⟩,?_,λx c e=>?_,?_,λx c e=>?_,λp hp=>?_,hok,I.len⟩
 . exact keep b o (neL b o e) hb (Zm b o e hx) (I.base.keep b o e n hb hx) (I.base.free b o e n hx)
 . obtain⟨sl,e1⟩:=I.base.slot b o e n hb hx;obtain⟨sl',e2⟩:=slot b _ (neL b o e) hb (Zm b o e hx) e1 (I.base.free b o e n hx);exact⟨sl',e2⟩
 . obtain⟨o',e1⟩:=I.base.there b o e hx;exact free b o' (Zm b o e hx) e1 (I.base.free b o e n hx)
 . obtain⟨o',e1⟩:=I.base.there b o e hx;exact there b o' (Zm b o e hx) e1
 . obtain⟨m1,e1⟩:=I.base.sG b ps e;obtain⟨m2,e2⟩:=sG b _ e1;exact⟨m1++m2,by rw[e2,Array.append_assoc]⟩
 .
  obtain⟨m,hn,hl⟩:=I.loc;refine⟨m,ns m hn,λi x v e1 e2 e3=>?_⟩
  obtain⟨u,r,l⟩:=hl i x v e1 e2 e3;refine⟨u,r,?_⟩;rcases l with l |⟨k,c,e,z⟩
  . exact .inl l
  . exact .inr ⟨k,c,e,cellK x c e _ z⟩
 . obtain⟨v,z⟩:=I.cell x c e;exact⟨v,cellK x c e v z⟩
 . obtain⟨m,⟨o,_,_,ho,_⟩,_⟩:=I.loc;exact free _ o (λz=>(hch _ z).2.1 rfl) ho I.free
 . obtain⟨v,o,ho,hd⟩:=I.cell x c e;exact free c o (λz=>(hch c z).2.2.1 x c e rfl) ho (I.jo x c e)
 .
  obtain⟨e,n,ne,nf,d⟩:=I.pin p hp;have V0:p.1∉ch:=λz=>(hch p.1 z).2.2.2 p hp rfl
  exact⟨keep p.1 p.2 ne nf V0 e n,free p.1 p.2 V0 e n,ne,nf,d⟩
theorem Inv.un{t':Nat}(I: ~~~7)(u:Un X.fs [] H H' s.heap h')(hok:n5 X.prog X.w H' h'):Inv X L Y H' { s with heap:=h',toks:=t'}:=by
 obtain⟨m,⟨o,es,ep,ho,r⟩,_⟩:=id I.loc;obtain⟨sl,hL⟩:=u.any ho I.free ⋯;exact I.step (g':=s.gens) (d':=s.drawn) (ch:=[]) (λ_ z=>nomatch z) (λb o _ hb _ e n=>u.keep b o e n hb ⋯) (λb o _ hb _ e n=>u.slot b o e n hb ⋯) (λb o _ e n=>u.free b o e n ⋯) (λb o _ e=>u.there b o e ⋯) u.tups u.sF u.sG (λm' hm=>by
  obtain⟨o',es',JN,ho',r'⟩:=hm;rw[ho]at ho';cases ho';exact⟨_,es',JN,hL,r'⟩) hok I.bare
theorem Inv.call{g':Array GenState}{t':Nat}{d':Drawn}{ch:List Addr}(I: ~~~7)(u:Un (frs X.stack) ch H H' s.heap h')(hok:n5 X.prog X.w H' h')(hg:AllBare g')
  (hch:∀b∈ch,(b∈X.ex\/X.s₀⁻¹<=b)/\b≠X.env.locals/\(∀x c,X.env.cells.lookup x=some c->c≠b)/\∀p∈X.pn++L,p.1≠b) :
  Inv X L Y H' { s with heap:=h',gens:=g',drawn:=d',toks:=t'}:=by
 obtain⟨m,⟨o,es,ep,ho,r⟩,_⟩:=id I.loc;obtain⟨sl,hL⟩:=u.any ho I.free λz=>(hch _ z).2.1 rfl
 exact I.step (ch:=ch) hch (λb o hL hb hc e n=>u.keep b o e n (λz=>(d6.mp (I.xF b z)).elim hL hb) hc) (λb o _ _ hc e n=>u.any e n hc) (λb o hc e n=>u.free b o e n hc) (λb o hc e=>u.there b o e hc) u.tups u.sF u.sG (λm' hm=>by
  obtain⟨o',es',JN,ho',r'⟩:=hm;rw[ho]at ho';cases ho';exact⟨_,es',JN,hL,r'⟩) hok hg
theorem Inv.turned{t':Nat}{it:Addr}(I: ~~~7)(k:∀b o,b≠it->s.heap.get? b=some o->h'.get? b=some o)(hn:H it=none)(hL:it≠X.env.locals)
  (h1:it∈X.ex\/X.s₀⁻¹<=it) (h2:∀x c,X.env.cells.lookup x=some c->c≠it) (h3:∀p∈X.pn++L,p.1≠it):Inv X L Y H { s with heap:=h',toks:=t'}:=by
 have nit:∀b u,H b=some u->b≠it:=λb u e z=>by rw[z,hn]at e;cases e
 refine I.step (g':=s.gens) (d':=s.drawn) (ch:=[it]) (λb hb=>?_) (λb o _ _ hc e _=>k b o (λz=>hc (by simp[z])) e) (λb o _ _ hc e _=>⟨o.slots,k b o (λz=>hc (by simp[z])) e⟩) (λ_ _ _ _ n=>n)
  (λb o hc e=>⟨o,k b o (λz=>hc (by simp[z])) e⟩) (λ_ _ e=>e) (λ_ _ _ e=>e) (λb ps e=>⟨#[],by rw[e];simp⟩) (λm hm=>?_) (λb u e=>?_) I.bare
 .
  have e:b=it:=by simpa using hb
  subst e;exact⟨h1,hL,h2,h3⟩
 . obtain⟨o,es,ep,ho,r⟩:=hm;exact⟨o,es,ep,k _ o (oQ hL) ho,r⟩
 .
  refine (I.hok b u e).stay (λc v hc q=>k c v ?_ q) (λ_ q=>q) λ_ _ q=>q
  rcases hc with z |z
  . rw[z];exact nit b u e
  . exact nit c _ z
theorem Inv.tok(I: ~~~7)(t:Nat):Inv X L Y H { s with toks:=t}:=I.un (h':=s.heap) (t':=t) Un.refl I.hok
theorem Inv.kept{t':Nat}(I: ~~~7)(k:∀b u,s.heap.get? b=some u->h'.get? b=some u):Inv X L Y H { s with heap:=h',toks:=t'}:=I.un (Un.kept k) (I.hok.kept k)
theorem Inv.laid{a:Addr}{o:HO}{t':Nat}(I: ~~~7)(k:∀b u,s.heap.get? b=some u->h'.get? b=some u)(hp:s⁻¹<=a)(new:d9 X.prog X.w (upd H a o) h' a o) :
  Inv X L Y (upd H a o) { s with heap:=h',toks:=t'}:=I.un (Un.laid k hp (I.hok.fresh hp)) (I.hok.laid k hp new)
theorem Inv.write(I: ~~~7)(mu:Zi (H x))(he:e=x\/H e=some (.own x))(k:∀b u,b≠e->s.heap.get? b=some u->h'.get? b=some u)(U9:∃u,h'.get? e=some u)
  (new:d9 X.prog X.w (upd H x o) h' x o):Inv X L Y (upd H x o) { s with heap:=h',toks:=t'}:=I.un (Un.write mu he k U9) (I.hok.write mu he k U9 new)
theorem Inv.zf(I: ~~~7)(h:∀p∈V1,s.heap.get? p.1=some p.2/\H p.1=none/\p.1≠X.env.locals/\p.1∉X.fs/\∀v,p.2.data≠.cell v):Inv X V1 Y H s:=
 ⟨I.ok,I.os,I.bare,I.base,I.loc,I.cell,I.free,I.jo,λp hp=>(AI.mp hp).elim (λz=>I.pin p (u4 _ z)) (h p),I.hok,I.len⟩
theorem uU{N:List Str}(hN:N.Nodup){i j:Nat}{x:Str}(a:N[i]?=some x)(b:N[j]?=some x):i=j:=by obtain⟨h1,e1⟩:=dA.mp a;obtain⟨h2,e2⟩:=dA.mp b;exact (List.getElem_inj hN).mp (e1.trans e2.symm)
theorem kP{M:Model}{A:Around}{E:Value->Shared->Prop}{i:Nat}{x:Str}{v:V}{u:Value}{Q:Unit->Shared->Prop}(I: ~~~7)(hN:X.N.Nodup)(hi:X.N[i]?=some x)(hx:Loc X.env.scope x)(r:RelV v u)
  (h:∀s',Inv X L (Y.set i (some v)) H s'->(∃a,Heap.SameBut a s.heap s'.heap/\(a=X.env.locals\/X.env.cells.lookup x=some a))->Q () s') (hf:X.fn x=true\/X.env.scope.names.lookup x=some .local:=by first |exact .inl rfl |exact .inr rfl |assumption):wpAny M A (storeName X.env x u) Q E s:=by
 obtain⟨m,hn,hl⟩:=id I.loc;have hcls:(X.env.scope.kind==.class||(X.env.scope.kind==.module&&X.env.locals != X.env.globals))=false:=by rw[I.ok.kind];rfl
 have V2:i<Y.length:=by rw[I.len];exact (dA.mp hi).1
 have P6:=I.P6;have tracked:∀{a:Addr}{h':Heap},(∃o,s.heap.get? a=some o/\H a=none)->Heap.SameBut a s.heap h'->n5 X.prog X.w H h':=λ{a h'} ha hs b ob e=>by
  obtain⟨_,_,hfree⟩:=ha;refine (I.hok b ob e).stay (λc w' hc q=>(hs.2 c ?_).trans q) (λ_ q=>q) λ_ _ q=>q
  rintro rfl;rcases hc with rfl |hc
  . rw[hfree]at e;cases e
  . rw[hfree]at hc;cases hc
 rcases hx with hk |hk
 .
  refine wpAny_storeName_local hk hn (λh' hn' hs=>?_) hcls
  obtain⟨oL,_,_,Zn,_⟩:=id hn;refine h _ ⟨I.ok,I.os,I.bare,⟨λb o e n hb hx=>?_,λb o e n hb hx=>?_,I.base.free,λb o e hx=>?_,I.base.tups,I.base.sF,I.base.sG⟩,⟨_,hn',λj y v' e1 e2 e3=>?_⟩,λy c e=>?_,I.free,I.jo,λp hp=>?_,tracked ⟨oL,Zn,I.free⟩ hs,by simpa using I.len⟩ ⟨_,hs,.inl rfl⟩
  . exact (hs.2 b (l4 (fA (eR e) I.ok.above))).trans (I.base.keep b o e n hb hx)
  . obtain⟨sl,e1⟩:=I.base.slot b o e n hb hx;exact⟨sl,(hs.2 b (l4 (fA (eR e) I.ok.above))).trans e1⟩
  . obtain⟨o',e1⟩:=I.base.there b o e hx;exact⟨o',(hs.2 b (l4 (fA (eR e) I.ok.above))).trans e1⟩
  .
   by_cases hj:j=i
   . subst hj;rw[hi]at e1;cases e1;rw[hZ V2]at e2;cases e2;exact⟨u,r,.inl ⟨hk,by simp⟩⟩
   .
    rw[gL (oQ hj)]at e2;obtain⟨u',r',q⟩:=hl j y v' e1 e2 e3;refine⟨u',r',?_⟩;rcases q with ⟨k,e⟩ |⟨k,c,e,z⟩
    .
     refine .inl ⟨k,?_⟩;have:y≠x:=λe=>hj (uU hN e1 (e▸hi))
     simp[this,e]
    . exact .inr ⟨k,c,e,z.sameBut hs (P6 y c e)⟩
  . obtain⟨w',z⟩:=I.cell y c e;exact⟨w',z.sameBut hs (P6 y c e)⟩
  . obtain⟨e,n,ne,nf,d⟩:=I.pin p hp;exact⟨(hs.2 p.1 ne).trans e,n,ne,nf,d⟩
 .
  have hfn:X.fn x=true:=by
   rcases hf with z |z
   . exact z
   . rw[z]at hk;cases hk
  obtain⟨c,hc⟩:=I.ok.has x (.inl hk);obtain⟨w',z⟩:=I.cell x c hc;refine wpAny_storeName_cell I.ok.kind hk hc z (λh' hc' hs=>?_)
  obtain⟨oc,hoc,hocd⟩:=id z;refine h { s with heap:=h'} ⟨I.ok,I.os,I.bare,⟨λb o e n hb hx=>?_,λb o e n hb hx=>?_,I.base.free,λb o e hx=>?_,I.base.tups,I.base.sF,I.base.sG⟩,⟨m,hn.sameBut hs (oQ (P6 x c hc)),λj y v' e1 e2 e3=>?_⟩,λy c' e=>?_,I.free,I.jo,λp hp=>?_,tracked ⟨oc,hoc,I.jo x c hc⟩ hs,by simpa using I.len⟩ ⟨c,hs,.inr hc⟩
  . exact (hs.2 b (l4 (fA (eR e) (I.ok.Va x c hfn hc)))).trans (I.base.keep b o e n hb hx)
  . obtain⟨sl,e1⟩:=I.base.slot b o e n hb hx;exact⟨sl,(hs.2 b (l4 (fA (eR e) (I.ok.Va x c hfn hc)))).trans e1⟩
  . obtain⟨o',e1⟩:=I.base.there b o e hx;exact⟨o',(hs.2 b (l4 (fA (eR e) (I.ok.Va x c hfn hc)))).trans e1⟩
  .
   by_cases hj:j=i
   . subst hj;rw[hi]at e1;cases e1;rw[hZ V2]at e2;cases e2;exact⟨u,r,.inr ⟨.inl hk,c,hc,hc'⟩⟩
   .
    rw[gL (oQ hj)]at e2;obtain⟨u',r',q⟩:=hl j y v' e1 e2 e3;refine⟨u',r',?_⟩;rcases q with q |⟨k,c',e,z'⟩
    . exact .inl q
    . refine .inr ⟨k,c',e,z'.sameBut hs ?_⟩;rintro rfl;exact hj (uU hN e1 (I.ok.inj _ _ _ e hc▸hi))
  .
   by_cases hcc:c'=c
   . subst hcc;exact⟨_,hc'⟩
   . obtain⟨w2,z2⟩:=I.cell y c' e;exact⟨w2,z2.sameBut hs hcc⟩
  . obtain⟨e,n,ne,nf,d⟩:=I.pin p hp;refine⟨(hs.2 p.1 ?_).trans e,n,ne,nf,d⟩;intro q;rw[q,hoc]at e;have q':oc=p.2:=rV e;exact d w' (by rw[<- q'];exact hocd)
theorem n6{M:Model}{A:Around}{E:Value->Shared->Prop}{i:Nat}{x:Str}{v:V}{u:Value}{Q:Unit->Shared->Prop}(I: ~~~7)(hN:X.N.Nodup)(hi:X.N[i]?=some x)(hx:Loc X.env.scope x)(r:RelV v u)
  (h:∀s',Inv X L (Y.set i (some v)) H s'->Q () s') (hf:X.fn x=true\/X.env.scope.names.lookup x=some .local:=by first |exact .inl rfl |exact .inr rfl |assumption):wpAny M A (storeName X.env x u) Q E s:=
 kP I hN hi hx r (λs' I' _=>h s' I') hf
theorem Inv.call'(I: ~~~7)(ho:s'.os=s.os)(u:Un (frs X.stack) ch H H' s.heap s'.heap)(hok:n5 X.prog X.w H' s'.heap)(hg:AllBare s'.gens)
  (hch:∀b∈ch,(b∈X.ex\/X.s₀⁻¹<=b)/\b≠X.env.locals/\(∀x c,X.env.cells.lookup x=some c->c≠b)/\∀p∈X.pn++L,p.1≠b):Inv X L Y H' s':=by
 obtain⟨h',g',d',t',o'⟩:=s';have e:o'=s.os:=ho;subst e;exact I.call (g':=g') (t':=t') (d':=d') u hok hg hch
end
abbrev XK:=Value->Option Addr->Hp->Prop
abbrev St:=List (Option V)
abbrev VK:=V->Hp->Prop
abbrev TE:=St->Hp->VK->Prop
abbrev TT:=St->Hp->(Bool->Hp->Prop)->Prop
abbrev TA:=St->Hp->(List V->Hp->Prop)->Prop
structure Ends where
 nx:St->Hp->Prop
 rt:VK
 bk:St->Hp->Prop:=λ_ _=>False
 ct:St->Hp->Prop:=λ_ _=>False
abbrev TS:=Ends->St->Hp->Prop
def EP(X:Cx)(L: ~~~1)(Y:St)(Q:VK)(u:Value)(s':Shared):Prop:=∃v H',Inv X L Y H' s'/\RelV v u/\Q v H'
def TP(X:Cx)(L: ~~~1)(Y:St)(Q:Bool->Hp->Prop)(b:Bool)(s':Shared):Prop:=∃H',Inv X L Y H' s'/\Q b H'
def AP(X:Cx)(L: ~~~1)(Y:St)(Q:List V->Hp->Prop)(us:List Value)(s':Shared):Prop:=∃vs H',Inv X L Y H' s'/\Vals vs us/\Q vs H'
def SP(X:Cx)(L: ~~~1)(D:Ends)(f:Flow)(s':Shared):Prop:=
 match f with
 |.next=>∃σ' H',Inv X L σ' H' s'/\D.nx σ' H'
 |.brk=>∃σ' H',Inv X L σ' H' s'/\D.bk σ' H'
 |.cont=>∃σ' H',Inv X L σ' H' s'/\D.ct σ' H'
 |.ret u=>∃v σ' H',Inv X L σ' H' s'/\RelV v u/\D.rt v H'
def PE(X:Cx)(e:Expr)(t:TE):Prop:=
 ∀(L: ~~~1) (s:Shared) (Y:St) (H:Hp) (Q:VK),Inv X L Y H s->t Y H Q->wpAny (~~~2) X.A (eval e X.env) (EP X L Y Q) X.xe s
def PT(X:Cx)(e:Expr)(t:TT):Prop:=
 ∀(L: ~~~1) (s:Shared) (Y:St) (H:Hp) (Q:Bool->Hp->Prop),Inv X L Y H s->t Y H Q->wpAny (~~~2) X.A (isTrue e X.env (eval e X.env)) (TP X L Y Q) X.xe s
def PW(X:Cx)(e:Expr)(t:TT):Prop:=
 ∀(whole:Sem Value) (L: ~~~1) (s:Shared) (Y:St) (H:Hp) (Q:Bool->Hp->Prop),Inv X L Y H s->t Y H Q->wpAny (~~~2) X.A (isTrue e X.env whole) (TP X L Y Q) X.xe s
theorem PW.pt{X:Cx}{e:Expr}{t:TT}(h:PW X e t):PT X e t:=h _
def PA(X:Cx)(es:List Expr)(t:TA):Prop:=
 ∀(pos:Pos) (L: ~~~1) (s:Shared) (Y:St) (H:Hp) (Q:List V->Hp->Prop),Inv X L Y H s->t Y H Q->wpAny (~~~2) X.A (spliced (backTo pos (starEach es X.env))) (AP X L Y Q) X.xe s
def PS(X:Cx)(st:Stmt)(t:TS):Prop:=
 ∀(L: ~~~1) (s:Shared) (Y:St) (H:Hp) (D:Ends),Inv X L Y H s->t D Y H->wpAny (~~~2) X.A (exec st X.env) (SP X L D) X.xe s
def uL(X:Cx)(st:List Stmt)(t:TS):Prop:=
 ∀(L: ~~~1) (s:Shared) (Y:St) (H:Hp) (D:Ends),Inv X L Y H s->t D Y H->wpAny (~~~2) X.A (execs st X.env) (SP X L D) X.xe s
theorem cz{α:Type}{t:Sem α}{Q Q':α->Shared->Prop}{M:Model}{A:Around}{E:Value->Shared->Prop}{s:Shared}(h:wpAny M A t Q E s)(hQ:∀a s,Q a s->Q' a s):wpAny M A t Q' E s:=nE h hQ λ_ _ x=>x
section
variable{X:Cx}
theorem bin{a b:Expr}{ta tb:TE}(ha:PE X a ta)(hb:PE X b tb){L: ~~~1}{s:Shared}{Y:St}{H:Hp}{R:V->V->Hp->Prop}(I: ~~~7)(h:ta Y H λx H1=>tb Y H1 λy H2=>R x y H2)
  {α:Type}{Q:α->Shared->Prop}{f:Value->Value->Sem α}
  (hf:∀v u s2 x y H2,Inv X L Y H2 s2->RelV x v->RelV y u->R x y H2->wpAny (~~~2) X.A (f v u) Q X.xe s2) :
  wpAny (~~~2) X.A (eval a X.env) (λv s₁=>wpAny (~~~2) X.A (eval b X.env) (λu s₂=>wpAny (~~~2) X.A (f v u) Q X.xe s₂) X.xe s₁) X.xe s:=by
 refine cz (ha L s Y H _ I h) λv s1 ⟨x,H1,I1,r1,q1⟩=>?_
 refine cz (hb L s1 Y H1 _ I1 q1) λu s2 ⟨y,H2,I2,r2,q2⟩=>?_
 exact hf v u s2 x y H2 I2 r1 r2 q2
def V3(i:Nat):TE:=λY H Q=>∃v,Y[i]?=some (some v)/\Q v H
def tC(v:V):TE:=λ_ H Q=>Q v H
theorem dF(hN:X.N[i]?=some x)(hv:mq X.env.scope x)(hd:(x==(~~~3))=false:=by decide)(eF:(x==("__classdict__":Str))=false:=by decide):PE X (.Name x pos) (V3 i):=by
 intro L s Y H Q I h;obtain⟨v,e,h⟩:=h;obtain⟨m,hn,hl⟩:=I.loc;obtain⟨u,r,l⟩:=hl i x v hN e hv;have fin:EP X L Y Q u s:=⟨v,H,I,r,h⟩;rcases l with ⟨hk,hm⟩ |⟨hk,c,hc,hcell⟩
 . exact wpAny_Name (wpAny_loadName_local I.ok.kind hk hn hm fin) hd
 .
  rcases hk with hk |hk
  . exact wpAny_Name (wpAny_loadName_cell I.ok.kind hk hc hcell fin) hd
  . exact wpAny_Name (wpAny_loadName_free I.ok.kind hk hc hcell fin eF) hd
theorem Ea{i j pos}:PE X (.Constant (.int i) j pos) (tC (.int i)):=λ_ _ _ H _ I h=>wpAny_Constant_int ⟨.int i,H,I.tok _,⟨_,rfl⟩,h⟩
theorem V4{b j pos}:PE X (.Constant (.bool b) j pos) (tC (.bl b)):=λ_ _ _ H _ I h=>Constant_bool ⟨.bl b,H,I,rfl,h⟩
theorem P7{j pos}:PE X (.Constant .none j pos) (tC .non):=λ_ _ _ H _ I h=>Constant_none ⟨.non,H,I,rfl,h⟩
theorem P8{x j pos}:PE X (.Constant (.str x) j pos) (tC (.str x)):=λ_ _ _ H _ I h=>Calls.Constant_str ⟨.str x,H,I.tok _,⟨_,rfl⟩,h⟩
def Gl(X:Cx)(x:Str):Prop:=X.env.kindOf x=some .globalImplicit
theorem zg{E:Value->Shared->Prop}{L: ~~~1}{s:Shared}{Y:St}{H:Hp}{x:Str}{u:Value}{pos:Pos}{Q:Value->Shared->Prop}(I: ~~~7)(hg:Gl X x)(hm:X.mg x=some u)(h:Q u s)
  (hd:(x==(~~~3))=false:=by decide):wpAny (~~~2) X.A (eval (.Name x pos) X.env) Q E s:=
 Calls.Name_function_global I.ok.kind hg (Calls.loadGlobal_global (by rw[I.ok.glob];exact I.mod.glob.keeps I.bk) hm h) hd
theorem eL{E:Value->Shared->Prop}{L: ~~~1}{s:Shared}{Y:St}{H:Hp}{x:Str}{u:Value}{pos:Pos}{Q:Value->Shared->Prop}(I: ~~~7)(hg:Gl X x)(hm:X.mg x=none)(hv:bootBuiltins x=some u)(h:Q u s)
  (hn:x≠ "__name__" :=by decide) (hd:(x==(~~~3))=false:=by decide):wpAny (~~~2) X.A (eval (.Name x pos) X.env) Q E s:=by
 obtain⟨mb,h1,h2⟩:=I.mod.blt;exact Calls.Name_function_global I.ok.kind hg (Calls.loadGlobal_builtin (by rw[I.ok.glob];exact I.mod.glob.keeps I.bk) hm (by rw[I.ok.blt];exact h1.keeps I.bk) ((h2 x hn).trans hv) h) hd
theorem JQ(hg:Gl X x)(hm:X.mg x=some u)(r:RelV v u)(hd:(x==(~~~3))=false:=by decide):PE X (.Name x pos) (tC v):=
 λ_ _ _ H _ I h=>zg I hg hm ⟨v,H,I,r,h⟩ hd
theorem JR(hg:Gl X x)(hm:X.mg x=none)(hv:bootBuiltins x=some u)(r:RelV v u)(hn:x≠ "__name__" :=by decide)(hd:(x==(~~~3))=false:=by decide):PE X (.Name x pos) (tC v):=
 λ_ _ _ H _ I h=>eL I hg hm hv ⟨v,H,I,r,h⟩ hn hd
variable{a b:Expr}{ta tb:TE}{pos:Pos}
variable{tA Zo:TT}{rest:List Expr}
noncomputable def tAnd(t u:TT):TT:=λY H Q=>t Y H λc H1=>if c=true then u Y H1 Q else Q false H1
noncomputable def tOr(t u:TT):TT:=λY H Q=>t Y H λc H1=>if c=true then Q true H1 else u Y H1 Q
def tNot(t:TT):TT:=λY H Q=>t Y H λc H1=>Q (!c) H1
theorem pw_and1(ha:PT X a tA):PW X (.BoolOp .And [a] pos) tA:=by
 intro wh L s Y H Q I h;refine isTrue_and (cz (ha L s Y H Q I h) λc s1 e=>?_)
 cases c with
 |true=>exact isTrue_and_nil e
 |false=>exact e
theorem pw_or1(ha:PT X a tA):PW X (.BoolOp .Or [a] pos) tA:=by
 intro wh L s Y H Q I h;refine isTrue_or (cz (ha L s Y H Q I h) λc s1 e=>?_)
 cases c with
 |false=>exact isTrue_or_nil e
 |true=>exact e
theorem pw_and(ha:PT X a tA)(hb:PW X (.BoolOp .And (b::rest) pos) Zo):PW X (.BoolOp .And (a::b::rest) pos) (tAnd tA Zo):=by
 intro wh L s Y H Q I h;refine isTrue_and (cz (ha L s Y H _ I h) λc s1 ⟨H1,I1,q1⟩=>?_)
 cases c with
 |true=>exact hb wh L s1 Y H1 Q I1 q1
 |false=>exact⟨H1,I1,q1⟩
theorem pw_or(ha:PT X a tA)(hb:PW X (.BoolOp .Or (b::rest) pos) Zo):PW X (.BoolOp .Or (a::b::rest) pos) (tOr tA Zo):=by
 intro wh L s Y H Q I h;refine isTrue_or (cz (ha L s Y H _ I h) λc s1 ⟨H1,I1,q1⟩=>?_)
 cases c with
 |true=>exact⟨H1,I1,q1⟩
 |false=>exact hb wh L s1 Y H1 Q I1 q1
theorem P9(ha:PT X a tA):PT X (.UnaryOp .Not a pos) (tNot tA):=by intro L s Y H Q I h;exact isTrue_not (ha L s Y H (λc H1=>Q (!c) H1) I h)
noncomputable def V5(ta tb:TE):TE:=λY H Q=>ta Y H λx H1=>∃c,x=.bl c/\if c=true then tb Y H1 Q else Q (.bl false) H1
noncomputable def tOrV(ta tb:TE):TE:=λY H Q=>ta Y H λx H1=>∃c,x=.bl c/\if c=true then Q (.bl true) H1 else tb Y H1 Q
def V6(ta:TE):TE:=λY H Q=>ta Y H λx H1=>∃c,x=.bl c/\Q (.bl (!c)) H1
theorem Qa{op}(h:PE X a t):PE X (.BoolOp op [a] pos) t:=λL s Y H Q I hw=>BoolOp_one (h L s Y H Q I hw)
theorem Eb(ha:PE X a ta)(hb:PE X (.BoolOp .And (b::rest) pos) tb):PE X (.BoolOp .And (a::b::rest) pos) (V5 ta tb):=by
 intro L s Y H Q I h;refine BoolOp_and (cz (ha L s Y H _ I h) λv s1 ⟨x,H1,I1,r1,q1⟩=>?_)
 obtain⟨c,rfl,q1⟩:=q1;cases r1;refine nV ?_;cases c with
 |true=>exact hb L s1 Y H1 Q I1 q1
 |false=>exact⟨.bl false,H1,I1,rfl,q1⟩
theorem N9(ha:PE X a ta)(hb:PE X (.BoolOp .Or (b::rest) pos) tb):PE X (.BoolOp .Or (a::b::rest) pos) (tOrV ta tb):=by
 intro L s Y H Q I h;refine BoolOp_or (cz (ha L s Y H _ I h) λv s1 ⟨x,H1,I1,r1,q1⟩=>?_)
 obtain⟨c,rfl,q1⟩:=q1;cases r1;refine nV ?_;cases c with
 |false=>exact hb L s1 Y H1 Q I1 q1
 |true=>exact⟨.bl true,H1,I1,rfl,q1⟩
theorem Qc(ha:PE X a ta):PE X (.UnaryOp .Not a pos) (V6 ta):=by
 intro L s Y H Q I h;refine UnaryOp_ (cz (ha L s Y H _ I h) λv s1 ⟨x,H1,I1,r1,q1⟩=>?_)
 obtain⟨c,rfl,q1⟩:=q1;cases r1;exact not_of (nV ⟨.bl (!c),H1,I1,rfl,q1⟩)
noncomputable def tIf(t:TT)(ta tb:TE):TE:=λY H Q=>t Y H λc H1=>if c=true then ta Y H1 Q else tb Y H1 Q
theorem uV{c:Expr}(hc:PT X c tA)(ha:PE X a ta)(hb:PE X b tb):PE X (.IfExp c a b pos) (tIf tA ta tb):=by
 intro L s Y H Q I h;refine wpAny_IfExp (cz (hc L s Y H _ I h) λd s1 ⟨H1,I1,q1⟩=>?_)
 cases d with
 |true=>exact ha L s1 Y H1 Q I1 q1
 |false=>exact hb L s1 Y H1 Q I1 q1
end
def cB(K:Frag)(H:Hp)(a:Addr)(xs:List V):Prop:=
 Rd H a (.lst xs)\/
  ∃(o:Obj) (its:Array Value) (n:Nat),K.lookup a=some o/\o.cls=.type "list" /\o.dict=none/\o.data=.seq its n/\its.size<=sizeLine/\Vals xs its.toList
def fV(K:Frag)(H:Hp)(a:Addr)(xs:List V):Prop:=
 Rd H a (.tup xs)\/
  ∃(o:Obj) (its:Array Value) (n:Nat),K.lookup a=some o/\o.cls=.type "tuple" /\o.data=.seq its n/\its.size<=sizeLine/\Vals xs its.toList
noncomputable def absV:Value->Option V
 |.none=>some .non
 |.bool b=>some (.bl b)
 |.int i _=>some (.int i)
 |.str x _=>some (.str x)
 |.bytes b _=>some (.P0 b)
 |.float b _=>some (.flt b)
 |.ref a=>some (.ref a)
 |.type n=>some (.ty n)
 |_=>none
theorem RelV.abs(r:RelV x u):absV u=some x:=by
 cases x with
 |non=>cases r;rfl
 |bl _=>cases r;rfl
 |int _=>obtain⟨t,rfl⟩:=r;rfl
 |str _=>obtain⟨t,rfl⟩:=r;rfl
 |P0 _=>obtain⟨t,rfl⟩:=r;rfl
 |flt _=>obtain⟨t,rfl⟩:=r;rfl
 |ref _=>cases r;rfl
 |ty _=>cases r;rfl
theorem RelV.inj{x y:V}{u:Value}(r:RelV x u)(q:RelV y u):x=y:=rV (r.abs.symm.trans q.abs)
theorem Vals.inj:∀{xs ys:List V}{us:List Value},Vals xs us->Vals ys us->xs=ys
 |_,_,_,.nil,.nil=>rfl
 |_,_,_,.cons r t,.cons r' t'=>by rw[r.inj r',Vals.inj t t']
section
variable{X:Cx}{L: ~~~1}{Y:St}{H:Hp}{s:Shared}{a:Addr}{xs ys:List V}
theorem cB.of{K:Frag}(h:H a=some (.lst xs)):cB K H a xs:=.inl (.inl h)
theorem Inv.list(I: ~~~7)(h:cB X.K H a xs):∃its:List Value,Vals xs its/\PlainL s.heap a its.toArray/\xs.length<=sizeLine:=by
 rcases h with h |⟨o,its,n,hk,hc,hd,hs,hz,r⟩
 . obtain⟨z,its,n,r,e⟩:=h.ok I.hok;exact⟨its,r,⟨_,n,e,rfl,rfl,rfl⟩,z⟩
 .
  refine⟨its.toList,r,⟨o,n,I.uT a o hk,hc,hd,by simpa using hs⟩,?_⟩
  have e:=r.length;simp only[oD]at e;lia
theorem Inv.tuple(I: ~~~7)(h:fV X.K H a xs):∃its:List Value,Vals xs its/\IsTup s.heap a its.toArray/\xs.length<=sizeLine:=by
 rcases h with h |⟨o,its,n,hk,hc,hs,hz,r⟩
 . obtain⟨z,its,r,p⟩:=h.ok I.hok;exact⟨its,r,p.tup,z⟩
 .
  refine⟨its.toList,r,⟨o,I.uT a o hk,hc,n,by simpa using hs⟩,?_⟩
  have e:=r.length;simp only[oD]at e;lia
theorem Inv.uW(I: ~~~7)(h:cB X.K H a xs)(h':cB X.K H a ys):xs=ys:=by
 obtain⟨its,r,⟨o,n,e,_,_,d⟩,_⟩:=I.list h;obtain⟨its',r',⟨o',n',e',_,_,d'⟩,_⟩:=I.list h';rw[e]at e';cases e';rw[d]at d';injection d' with d1 _;have:its=its':=by simpa using congrArg Array.toList d1
 subst this;exact r.inj r'
theorem Inv.qQ(I: ~~~7)(h:fV X.K H a xs)(h':fV X.K H a ys):xs=ys:=by
 obtain⟨its,r,⟨o,e,_,n,d⟩,_⟩:=I.tuple h;obtain⟨its',r',⟨o',e',_,n',d'⟩,_⟩:=I.tuple h';rw[e]at e';cases e';rw[d]at d';injection d' with d1 _;have:its=its':=by simpa using congrArg Array.toList d1
 subst this;exact r.inj r'
end
abbrev Cx.wish(X:Cx)(E:Value->Shared->Prop):Cx:={ X with xe:=E}
abbrev Cx.Vb(X:Cx):Cx:=X.wish λ_ _=>False
theorem Cx.Ok.wish{X:Cx}(ok:X.Ok)(E:Value->Shared->Prop):(X.wish E).Ok:=
 ⟨ok.mod,ok.kind,ok.glob,ok.blt,ok.above,ok.inj,ok.has,ok.Va,ok.hd,ok.frames,ok.stk,ok.VR,ok.bs,ok.JM,ok.xE,ok.Av,ok.nj,ok.P5⟩
theorem Cx.Ok.iA{X:Cx}{E:Value->Shared->Prop}(ok:(X.wish E).Ok):X.Ok:=
 ⟨ok.mod,ok.kind,ok.glob,ok.blt,ok.above,ok.inj,ok.has,ok.Va,ok.hd,ok.frames,ok.stk,ok.VR,ok.bs,ok.JM,ok.xE,ok.Av,ok.nj,ok.P5⟩
section
variable{X:Cx}{L: ~~~1}{Y:St}{H:Hp}{s:Shared}{E:Value->Shared->Prop}
theorem Inv.wish(I: ~~~7)(E:Value->Shared->Prop):Inv (X.wish E) L Y H s:=⟨I.ok.wish E,I.os,I.bare,I.base,I.loc,I.cell,I.free,I.jo,I.pin,I.hok,I.len⟩
theorem Inv.iA(I:Inv (X.wish E) L Y H s):Inv X L Y H s:=⟨I.ok.iA,I.os,I.bare,I.base,I.loc,I.cell,I.free,I.jo,I.pin,I.hok,I.len⟩
theorem SP.iA(h:SP (X.wish E) L D f s'):SP X L D f s':=by
 cases f with
 |next=>obtain⟨σ',H',I,q⟩:=h;exact⟨σ',H',I.iA,q⟩
 |brk=>obtain⟨σ',H',I,q⟩:=h;exact⟨σ',H',I.iA,q⟩
 |cont=>obtain⟨σ',H',I,q⟩:=h;exact⟨σ',H',I.iA,q⟩
 |ret u=>obtain⟨v,σ',H',I,r,q⟩:=h;exact⟨v,σ',H',I.iA,r,q⟩
theorem uL.Vb{st:List Stmt}{t:TS}(h:uL X.Vb st t):uL X st t:=λL s Y H D I hw=>
 nE (h L s Y H D (I.wish _) hw) (λ_ _ q=>q.iA) λ_ _ z=>False.elim z
end
section
variable{X:Cx}{st:Stmt}{rest:List Stmt}{t u:TS}{e:Expr}{te:TE}{pos:Pos}
def V7:TS:=λD Y H=>D.nx Y H
def V8(t u:TS):TS:=λD Y H=>t { D with nx:=u D} Y H
theorem JT:uL X [] V7:=λ_ _ Y H _ I h=>wpAny_execs_nil ⟨Y,H,I,h⟩
theorem gH(h1:PS X st t)(h2:uL X rest u):uL X (st::rest) (V8 t u):=by
 intro L s Y H D I h;refine wpAny_execs_cons (cz (h1 L s Y H { D with nx:=u D} I h) λf s1 q=>?_)
 cases f with
 |next=>obtain⟨σ',H',I',q⟩:=q;exact h2 L s1 σ' H' D I' q
 |ret v=>exact q
 |brk=>exact q
 |cont=>exact q
theorem JV(h1:PS X st t):uL X [st] t:=by
 intro L s Y H D I h;refine wpAny_execs_cons (cz (h1 L s Y H D I h) λf s1 q=>?_)
 cases f with
 |next=>exact wpAny_execs_nil q
 |ret v=>exact q
 |brk=>exact q
 |cont=>exact q
theorem Inv.quiet{L: ~~~1}{Y:St}{H:Hp}{s:Shared}(I: ~~~7):interactive X.env=false:=by simp[interactive,I.ok.kind]
def V9(te:TE):TS:=λD Y H=>te Y H λ_ H1=>D.nx Y H1
theorem zh(he:PE X e te)(hs:swapsWith e none pos.line X.env=pure false:=by rfl):PS X (.Expr e pos) (V9 te):=by intro L s Y H D I h;exact wpAny_Expr_any (cz (he L s Y H _ I h) λv s1 ⟨x,H1,I1,r1,q1⟩=>⟨Y,H1,I1,q1⟩) I.quiet hs
def tRet(te:TE):TS:=λD Y H=>te Y H D.rt
theorem Ec(he:PE X e te):PS X (.Return (some e) pos) (tRet te):=by intro L s Y H D I h;exact wpAny_Return_some (cz (he L s Y H _ I h) λv s1 ⟨x,H1,I1,r1,q1⟩=>⟨x,Y,H1,I1,r1,q1⟩)
noncomputable def tIfS(c:TT)(t u:TS):TS:=λD Y H=>c Y H λb H1=>if b=true then t D Y H1 else u D Y H1
theorem Oa{c:Expr}{a b:List Stmt}{tc:TT}(hc:PT X c tc)(ha:uL X a t)(hb:uL X b u):PS X (.If c a b pos) (tIfS tc t u):=by
 intro L s Y H D I h;refine wpAny_If (cz (hc L s Y H _ I h) λd s1 ⟨H1,I1,q1⟩=>?_)
 cases d with
 |true=>exact ha L s1 Y H1 D I1 q1
 |false=>exact hb L s1 Y H1 D I1 q1
def Qd:TS:=λ_ _ _=>False
theorem eZ:uL X uQ Qd:=λ_ _ _ _ _ _ h=>h.elim
end
abbrev TG:=V->St->Hp->(St->Hp->Prop)->Prop
abbrev Ob:=List V->St->Hp->(St->Hp->Prop)->Prop
def PG(X:Cx)(target:Expr)(t:TG):Prop:=
 ∀(L: ~~~1) (s:Shared) (Y:St) (H:Hp) (v:V) (u:Value) (Q:St->Hp->Prop),Inv X L Y H s->RelV v u->t v Y H Q->
  wpAny (~~~2) X.A (assign target X.env u) (λ_ s'=>∃σ' H',Inv X L σ' H' s'/\Q σ' H') X.xe s
def Vc(X:Cx)(ts:List Expr)(t:Ob):Prop:=
 ∀(L: ~~~1) (s:Shared) (Y:St) (H:Hp) (vs:List V) (us:List Value) (Q:St->Hp->Prop),Inv X L Y H s->Vals vs us->t vs Y H Q->
  wpAny (~~~2) X.A (assignInOrder ((assignEach ts X.env).map (·.2)) us) (λ_ s'=>∃σ' H',Inv X L σ' H' s'/\Q σ' H') X.xe s
abbrev Qe:=V->V->V->Hp->(Hp->Prop)->Prop
def Wa(X:Cx)(t:Qe):Prop:=
 ∀(L: ~~~1) (s:Shared) (Y:St) (H:Hp) (o i v:V) (ov iv u:Value) (Q:Hp->Prop),Inv X L Y H s->RelV o ov->RelV i iv->RelV v u->t o i v H Q->
  wpAny (~~~2) X.A (setItem ov iv u) (λ_ s'=>∃H',Inv X L Y H' s'/\Q H') X.xe s
abbrev Zq:=V->V->Hp->VK->Prop
def PIp(X:Cx)(op:Operator)(t:Zq):Prop:=
 ∀(L: ~~~1) (s:Shared) (Y:St) (H:Hp) (x y:V) (v u:Value) (Q:VK),Inv X L Y H s->RelV x v->RelV y u->t x y H Q->
  wpAny (~~~2) X.A (inplaceOp op v u) (EP X L Y Q) X.xe s
section
variable{X:Cx}{pos:Pos}
def uX(i:Nat):TG:=λv Y H Q=>Q (Y.set i (some v)) H
theorem jU(hN:X.N.Nodup)(hi:X.N[i]?=some x)(hx:Loc X.env.scope x)(hf:X.fn x=true\/X.env.scope.names.lookup x=some .local:=by first |exact .inl rfl |exact .inr rfl |assumption):PG X (.Name x pos) (uX i):=by intro L s Y H v u Q I r h;exact wpAny_assign_Name (n6 I hN hi hx r (λs' I'=>⟨_,H,I',h⟩) hf)
def gNil:Ob:=λvs Y H Q=>vs=[]/\Q Y H
noncomputable def Wc(t:TG)(u:Ob):Ob:=λvs Y H Q=>∃v r,vs=v::r/\t v Y H λσ' H'=>u r σ' H' Q
theorem sI:Vc X [] gNil:=by intro L s Y H vs us Q I r h;obtain⟨e,h⟩:=h;subst e;cases r;exact assignInOrder_nil ⟨Y,H,I,h⟩
theorem iB{e:Expr}{es:List Expr}{t:TG}{u:Ob}(h1:PG X e t)(h2:Vc X es u)
  (hs:(assignEach (e::es) X.env).map (·.2)=assign e X.env::(assignEach es X.env).map (·.2):=by rfl):Vc X (e::es) (Wc t u):=by
 intro L s Y H vs us Q I r h;obtain⟨v,vr,e1,h⟩:=h;subst e1;cases r with
 |cons r rr=>
  rw[hs];refine assignInOrder_cons (cz (h1 L s Y H _ _ _ I r h) λ_ s1 ⟨σ1,H1,I1,q1⟩=>?_)
  exact h2 L s1 σ1 H1 _ _ Q I1 rr q1
def gTup(K:Frag)(n:Nat)(t:Ob):TG:=λv Y H Q=>∃a xs,v=.ref a/\fV K H a xs/\xs.length=n/\t xs Y H Q
theorem xG(hc:X.calm=true)(h:Vc X es t)
  (hn:(assignEach es X.env).length=n:=by rfl) (eG:(assignEach es X.env).findIdx? (·.1)=none:=by rfl):PG X (.Tuple es k pos) (gTup X.K n t):=by
 intro L s Y H v u Q I r hw;obtain⟨a,xs,e1,hq,hl,hw⟩:=hw;subst e1;cases r;obtain⟨its,rv,ht,hz⟩:=I.tuple hq;refine assign_Tuple_tuple (I.ok.hd hc) ht (by simp[hn,<- hl,rv.length]) eG λh' hx=>?_
 have I1:Inv X L Y H { s with heap:=h'}:=I.kept (t':=s.toks) λb o e=>hx b o (l4 (eR e)) e
 exact h L _ Y H xs _ Q I1 (by simpa using rv) hw
noncomputable def gSub(to ti:TE)(t:Qe):TG:=λv Y H Q=>to Y H λo H1=>ti Y H1 λi H2=>t o i v H2 λH3=>Q Y H3
theorem xH{o i:Expr}{to ti:TE}{t:Qe}(ho:PE X o to)(hi:PE X i ti)(hs:Wa X t)
  (ha:∀v,assign (.Subscript o i pos) X.env v=(do
   let ov <- holding [v] (eval o X.env)
   let iv <- holding [v,ov] (eval i X.env)
   standAt pos
   holding [v,ov,iv] (setItem ov iv v)
   release [v,ov,iv] []):=by intro _;rfl):PG X (.Subscript o i pos) (gSub to ti t):=by
 intro L s Y H v u Q I r h;rw[ha];refine aS (lL (cz (ho L s Y H _ I h) λov s1 ⟨x,H1,I1,r1,q1⟩=>?_))
 refine aS (lL (cz (hi L s1 Y H1 _ I1 q1) λiv s2 ⟨y,H2,I2,r2,q2⟩=>?_))
 refine aS (AE (aS (lL (cz (hs L s2 Y H2 x y v ov iv u _ I2 r1 r2 r q2) λ_ s3 ⟨H3,I3,q3⟩=>?_))))
 exact wpAny_release ⟨Y,H3,I3,q3⟩
def JW(te:TE)(g:TG):TS:=λD Y H=>te Y H λx H1=>g x Y H1 D.nx
theorem xJ{tg e:Expr}{te:TE}{g:TG}(he:PE X e te)(hg:PG X tg g)(hs:swapsWithSole [tg] e pos.line X.env=pure false:=by rfl)(hw:swappedStores [tg] e X.env=pure none:=by rfl)
  (h1:(assignEach [tg] X.env).map (·.2)=[assign tg X.env]:=by rfl):PS X (.Assign [tg] e pos) (JW te g):=by
 intro L s Y H D I h;refine wpAny_Assign_stores (cz (he L s Y H _ I h) λv s1 ⟨x,H1,I1,r1,q1⟩=>?_) hs hw
 rw[h1];exact cz (hg L s1 Y H1 x v _ I1 r1 q1) λ_ s2 q=>q
theorem Ed{i:Nat}{x:Str}{e:Expr}{te:TE}{pos':Pos}(hN:X.N.Nodup)(hi:X.N[i]?=some x)(hx:Loc X.env.scope x)(he:PE X e te)(hs:swapsWith e (some (.Name x pos')) pos.line X.env=pure false:=by rfl)(hf:X.fn x=true\/X.env.scope.names.lookup x=some .local:=by first |exact .inl rfl |exact .inr rfl |assumption) :
  PS X (.Assign [.Name x pos'] e pos) (JW te (uX i)):=by
 intro L s Y H D I h;refine wpAny_Assign_Name (cz (he L s Y H _ I h) λv s1 ⟨y,H1,I1,r1,q1⟩=>?_) hs
 exact n6 I1 hN hi hx r1 (λs2 I2=>⟨_,H1,I2,q1⟩) hf
noncomputable def tAug(i:Nat)(te:TE)(ti:Zq):TS:=λD Y H=>∃x,Y[i]?=some (some x)/\te Y H λy H1=>ti x y H1 λz H2=>D.nx (Y.set i (some z)) H2
theorem Ef{i:Nat}{x:Str}{e:Expr}{te:TE}{op:Operator}{ti:Zq}{pos':Pos}(hN:X.N.Nodup)(hi:X.N[i]?=some x)(hx:Loc X.env.scope x)(he:PE X e te)(ho:PIp X op ti)(hf:X.fn x=true\/X.env.scope.names.lookup x=some .local:=by first |exact .inl rfl |exact .inr rfl |assumption) :
  PS X (.AugAssign (.Name x pos') op e pos) (tAug i te ti):=by
 intro L s Y H D I h;obtain⟨v,e1,h⟩:=h;obtain⟨m,hn,hl⟩:=I.loc;have vis:mq X.env.scope x:=by rcases hx with k |k;exact .inl k;exact .inr (.inl k)
 obtain⟨u,r,l⟩:=hl i x v hi e1 vis;refine wpAny_AugAssign_Name ?_;have go:wpAny (~~~2) X.A (eval e X.env) (λw s₂=>wpAny (~~~2) X.A (inplaceOp op u w) (λr s₃=>wpAny (~~~2) X.A (storeName X.env x r) (λ_=>SP X L D .next) X.xe s₃) X.xe s₂) X.xe s:=by
  refine cz (he L s Y H _ I h) λw s1 ⟨y,H1,I1,r1,q1⟩=>?_
  refine cz (ho L s1 Y H1 v y u w _ I1 r r1 q1) λz s2 ⟨zv,H2,I2,r2,q2⟩=>?_
  exact n6 I2 hN hi hx r2 (λs3 I3=>⟨_,H2,I3,q2⟩) hf
 rcases l with ⟨hk,hm⟩ |⟨hk,c,hc,hcell⟩
 . exact wpAny_loadName_local I.ok.kind hk hn hm go
 .
  rcases hk with hk |hk
  . exact wpAny_loadName_cell I.ok.kind hk hc hcell go
  .
   rcases hx with k |k
   . have:X.env.scope.names.lookup x=some .free:=hk;rw[k]at this;cases this
   . have:X.env.scope.names.lookup x=some .free:=hk;rw[k]at this;cases this
end
section
variable{X:Cx}{pos:Pos}
noncomputable def Qf(c:TT)(tb:TS):TS:=λD Y H=>∃W:Nat->St->Hp->Prop,(∃m,W m Y H)/\∀m Y H,W m Y H->
 c Y H λb H1=>if b=true then ∃N:St->Hp->Prop,(∀σ' H',N σ' H'->∃m',m'<m/\W m' σ' H')/\tb { D with nx:=N,ct:=N,bk:=D.nx} Y H1 else D.nx Y H1
theorem Eg{c:Expr}{body:List Stmt}{tc:TT}{tb:TS}(hp:PassesOwn (~~~2) X.A X.env X.xe)(hc:PT X c tc)(hb:uL X body tb):PS X (.While c body [] pos) (Qf tc tb):=by
 intro L s Y H D I h;obtain⟨W,⟨m0,w0⟩,turn⟩:=h;refine wpAny_While (codeAny_whileLoop (λn s'=>∃σ' H',Inv X L σ' H' s'/\W n σ' H') ?_ m0 ⟨Y,H,I,w0⟩)
 rintro n s1 ⟨σ1,H1,I1,w1⟩;refine AJ hp (cz (hc L s1 σ1 H1 _ I1 (turn n σ1 H1 w1)) λb s2 ⟨H2,I2,q2⟩=>?_)
 cases b with
 |true=>
  obtain⟨N,hN,q2⟩:=q2;rw[fN rfl];refine AJ hp (cz (hb L s2 σ1 H2 _ I2 q2) λf s3 q3=>?_)
  cases f with
  |next=>obtain⟨σ3,H3,I3,n3⟩:=q3;obtain⟨m',hm,w3⟩:=hN σ3 H3 n3;exact⟨m',hm,σ3,H3,I3,w3⟩
  |cont=>obtain⟨σ3,H3,I3,n3⟩:=q3;obtain⟨m',hm,w3⟩:=hN σ3 H3 n3;exact⟨m',hm,σ3,H3,I3,w3⟩
  |brk=>exact q3
  |ret v=>exact q3
 |false=>rw[hU i8];exact wpAny_execs_nil ⟨σ1,H2,I2,q2⟩
end
structure It where
 go:Nat->Hp->Prop
 Wd:Nat->Hp->V->Hp->Prop
 stop:Nat->Hp->Prop
def jV(X:Cx)(L: ~~~1)(H:Hp)(b:Addr):Prop:=
 H b=none/\b≠X.env.locals/\b∉X.fs/\(b∈X.ex\/X.s₀⁻¹<=b)/\(∀x c,X.env.cells.lookup x=some c->c≠b)/\∀p∈X.pn++L,p.1≠b
theorem Inv.uY{X:Cx}{L: ~~~1}{Y:St}{H H':Hp}{s:Shared}{b:Addr}(I: ~~~7)(hb:s⁻¹<=b)(hn:H' b=none):jV X L H' b:=by
 refine⟨hn,Cn (fA I.lt hb),I.nofs hb,.inr (kA I.sz hb),λx c e z=>?_,λp hp z=>?_⟩
 . obtain⟨v,q⟩:=I.cell x c e;exact absurd (fA q.lt (by rw[z];exact hb)) (mP _)
 . exact absurd (fA (eR (I.pin p hp).1) (by rw[z];exact hb)) (mP _)
structure Turn(P:Program)(w:World)(K:Frag)(tg:Expr)(J:It)(fp:List Addr)(it:Addr)(tn:Nat->Heap->Prop):Prop where
 mem:it∈fp
 obj:∀i h,tn i h->∀b∈fp,∃o,h.get? b=some o/\∀v,o.data≠.cell v
 keep:∀i h h',tn i h->(∀b∈fp,∀o,h.get? b=some o->h'.get? b=some o)->tn i h'
 item:∀(X:Cx),X.prog=P->X.w=w->X.K=K->X.calm=true->∀(i:Nat) (L: ~~~1) (s:Shared) (Y:St) (H:Hp) (E:Value->Shared->Prop),Inv X L Y H s->(∀b∈fp,jV X L H b)->tn i s.heap->J.go i H->
  wpAny (model P w) X.A (pyNext (.ref it)) (λr s1=>∃u,r=some u/\
   wpAny (model P w) X.A (letOwnedTupleGo tg (.ref it) u) (λ_ s2=>∃x H',Inv X L Y H' s2/\RelV x u/\J.Wd i H x H'/\tn (i+1) s2.heap/\∀b∈fp,H' b=none) E s1) E s
 done:∀(X:Cx),X.prog=P->X.w=w->X.K=K->X.calm=true->∀(i:Nat) (L: ~~~1) (s:Shared) (Y:St) (H:Hp) (E:Value->Shared->Prop),Inv X L Y H s->(∀b∈fp,jV X L H b)->tn i s.heap->J.stop i H->
  wpAny (model P w) X.A (pyNext (.ref it)) (λr s1=>r=none/\Inv X L Y H s1) E s
 self:∀(A:Around) (i:Nat) (s:Shared) (Q:Value->Shared->Prop) (E:Value->Shared->Prop),tn i s.heap->Q (.ref it) s->wpAny (model P w) A (pyIter (.ref it)) Q E s
abbrev TI:=St->Hp->(It->Hp->Prop)->Prop
def PIE(X:Cx)(L: ~~~1)(Y:St)(tg:Expr)(R:It->Hp->Prop)(itv:Value)(s2:Shared):Prop:=
 ∃(it:Addr) (fp:List Addr) (tn:Nat->Heap->Prop) (J:It) (H':Hp),itv=.ref it/\Inv X L Y H' s2/\Turn X.prog X.w X.K tg J fp it tn/\tn 0 s2.heap/\(∀b∈fp,jV X L H' b)/\R J H'
def PI(X:Cx)(tg iter:Expr)(wi:TI):Prop:=
 ∀(L: ~~~1) (s:Shared) (Y:St) (H:Hp) (R:It->Hp->Prop),Inv X L Y H s->wi Y H R->
  wpAny (~~~2) X.A (eval iter X.env) (λv s1=>wpAny (~~~2) X.A (pyIter v) (PIE X L Y tg R) X.xe s1) X.xe s
theorem zj(ho:s.heap.get? it=some o)(hc:o.cls=.type n)(hd:o.data=.fields vs)
  (hn:["enumerate", "zip", "dict_itemiterator", "dict_reverseitemiterator", "odict_iterator", "itertools.zip_longest", "itertools.pairwise"].contains n=false) (hQ:Q () s):wpAny M A (letOwnedTupleGo tg (.ref it) u) Q E s:=by
 unfold letOwnedTupleGo;cases tg <;> first
  |exact d5 hQ
  | (cases u <;> first
    |exact d5 hQ
    | (refine aS (wpAny_load ho ?_)
       rw[hc,hd];show wpAny M A (if (["enumerate", "zip", "dict_itemiterator", "dict_reverseitemiterator", "odict_iterator", "itertools.zip_longest", "itertools.pairwise"].contains n&&vs[0]?==some (rawInt _))=true then _ else _) Q E s
       rw[hU (by intro h;rw[hn,Bool.false_and]at h;symm)]
       exact d5 hQ))
def Itl(K:Frag)(a:Addr):It:=
 ⟨λi H=>∃xs x,cB K H a xs/\xs[i]?=some x,λi H x H'=>H'=H/\∀xs,cB K H a xs->xs[i]?=some x,λi H=>∃xs,cB K H a xs/\xs.length<=i⟩
def Itt(K:Frag)(a:Addr):It:=
 ⟨λi H=>∃xs x,fV K H a xs/\xs[i]?=some x,λi H x H'=>H'=H/\∀xs,fV K H a xs->xs[i]?=some x,λi H=>∃xs,fV K H a xs/\xs.length<=i⟩
noncomputable def Qg(lo:Int)(n:Nat):It:=⟨λi _=>i<n,λi H x H'=>H'=H/\x=.int (lo+i),λi _=>n<=i⟩
theorem Aw{P:Program}{w:World}{K:Frag}{tg:Expr}(a it:Addr):Turn P w K tg (Itl K a) [it] it (λi h=>h.IsListIter it a i) where
 mem:=by simp
 obj:=λi h st b hb=>by
  have e:b=it:=by simpa using hb
  subst e;obtain⟨o,e,c,d⟩:=st;exact⟨o,e,λv z=>by rw[d]at z;cases z⟩
 keep:=λi h h' st k=>st.at λo e=>k it ⋯ o e
 item:=by
  intro X hP hw hK hc i L s Y H E I hf st hg;subst hP hw hK;obtain⟨xs,x,hq,hx⟩:=hg;obtain⟨its,rv,p,hz⟩:=I.list hq;obtain⟨u,hu,ru⟩:=rv.get hx;obtain⟨f0,f1,f2,f3,f4,f5⟩:=hf it ⋯;refine wpAny_pyNext_list_item st p.isList (x:=u) (by simpa using hu) λh' st' sb=>?_
  have I1:Inv X L Y H { s with heap:=h'}:=I.turned (t':=s.toks) (λb o hb e=>(sb.2 b hb).trans e) f0 f1 f3 f4 f5
  obtain⟨o,e,c,d⟩:=id st';exact⟨u,rfl,zj (s:={ s with heap:=h'}) e c d ⋯ ⟨x,H,I1,ru,⟨rfl,λys hy=>by rw[I.uW hy hq];exact hx⟩,st',λb hb=>(hf b hb).1⟩⟩
 done:=by intro X hP hw hK hc i L s Y H E I hf st hg;subst hP hw hK;obtain⟨xs,hq,hx⟩:=hg;obtain⟨its,rv,p,hz⟩:=I.list hq;obtain⟨f0,f1,f2,f3,f4,f5⟩:=hf it ⋯;have hl:=rv.length;exact wpAny_pyNext_list_end (I.ok.hd hc) st p.isList (by simp;lia) λh' eb=>⟨rfl,I.turned (t':=s.toks) (λb o hb e=>eb b o hb e) f0 f1 f3 f4 f5⟩
 self:=λ_ _ _ _ _ st h=>wpAny_pyIter_listiter st h
theorem xK{P:Program}{w:World}{K:Frag}{tg:Expr}(a it:Addr):Turn P w K tg (Itt K a) [it] it (λi h=>h.IsTupleIter it a i) where
 mem:=by simp
 obj:=λi h st b hb=>by
  have e:b=it:=by simpa using hb
  subst e;obtain⟨o,e,c,d⟩:=st;exact⟨o,e,λv z=>by rw[d]at z;cases z⟩
 keep:=λi h h' st k=>st.at λo e=>k it ⋯ o e
 item:=by
  intro X hP hw hK hc i L s Y H E I hf st hg;subst hP hw hK;obtain⟨xs,x,hq,hx⟩:=hg;obtain⟨its,rv,p,hz⟩:=I.tuple hq;obtain⟨u,hu,ru⟩:=rv.get hx;obtain⟨f0,f1,f2,f3,f4,f5⟩:=hf it ⋯;refine wpAny_pyNext_tuple_item st (show s.heap.IsTuple a its.toArray from p) (x:=u) (by simpa using hu) λh' st' sb=>?_
  have I1:Inv X L Y H { s with heap:=h'}:=I.turned (t':=s.toks) (λb o hb e=>(sb.2 b hb).trans e) f0 f1 f3 f4 f5
  obtain⟨o,e,c,d⟩:=id st';exact⟨u,rfl,zj (s:={ s with heap:=h'}) e c d ⋯ ⟨x,H,I1,ru,⟨rfl,λys hy=>by rw[I.qQ hy hq];exact hx⟩,st',λb hb=>(hf b hb).1⟩⟩
 done:=by intro X hP hw hK hc i L s Y H E I hf st hg;subst hP hw hK;obtain⟨xs,hq,hx⟩:=hg;obtain⟨its,rv,p,hz⟩:=I.tuple hq;obtain⟨f0,f1,f2,f3,f4,f5⟩:=hf it ⋯;have hl:=rv.length;exact wpAny_pyNext_tuple_end (I.ok.hd hc) st (show s.heap.IsTuple a its.toArray from p) (by simp;lia) λh' eb=>⟨rfl,I.turned (t':=s.toks) (λb o hb e=>eb b o hb e) f0 f1 f3 f4 f5⟩
 self:=λ_ _ _ _ _ st h=>wpAny_pyIter_tupleiter st h
theorem xM{P:Program}{w:World}{K:Frag}{tg:Expr}(it:Addr)(lo:Int)(n:Nat):Turn P w K tg (Qg lo n) [it] it (λi h=>IsRangeIter h it (lo+(i:Nat) * 1) ((n:Int) - (i:Nat)) 1) where
 mem:=by simp
 obj:=λi h st b hb=>by
  have e:b=it:=by simpa using hb
  subst e;exact⟨_,st,λv z=>by
   have z':Data.fields _=Data.cell v:=z;cases z'⟩
 keep:=λi h h' st k=>k it ⋯ _ st
 item:=by
  intro X hP hw hK hc i L s Y H E I hf st hg;subst hP hw hK;obtain⟨f0,f1,f2,f3,f4,f5⟩:=hf it ⋯;have W:=Walks.range (prog:=X.prog) (w:=X.w) (I.ok.hd hc) it lo 1 n;refine W.item i s _ _ hg st λv h' tk hv st' kk=>?_
  obtain⟨t,rfl⟩:=hv;have I1:Inv X L Y H { s with heap:=h',toks:=tk}:=I.turned (λb o hb e=>kk b o (by simpa using hb) e) f0 f1 f3 f4 f5
  refine⟨_,rfl,zj (s:={ s with heap:=h',toks:=tk}) (n:= "range_iterator") st' rfl rfl ⋯ ⟨.int (lo+i),H,I1,⟨t,?_⟩,⟨rfl,rfl⟩,st',λb hb=>(hf b hb).1⟩⟩
  rw[Int.mul_one]
 done:=by intro X hP hw hK hc i L s Y H E I hf st hg;subst hP hw hK;obtain⟨f0,f1,f2,f3,f4,f5⟩:=hf it ⋯;exact wpAny_pyNext_range_end (I.ok.hd hc) st (by have:n<=i:=hg;lia) λh' eb=>⟨rfl,I.turned (t':=s.toks) (λb o hb e=>eb b o hb e) f0 f1 f3 f4 f5⟩
 self:=λ_ _ _ _ _ st h=>wpAny_pyIter_rangeiter st h
section
variable{X:Cx}{tg:Expr}
def Wf(K:Frag)(tl:TE):TI:=λY H R=>tl Y H λx H1=>∃a,x=.ref a/\(∃xs,cB K H1 a xs)/\R (Itl K a) H1
def iTup(K:Frag)(tl:TE):TI:=λY H R=>tl Y H λx H1=>∃a,x=.ref a/\(∃xs,fV K H1 a xs)/\R (Itt K a) H1
theorem zl{l:Expr}{tl:TE}(hl:PE X l tl):PI X tg l (Wf X.K tl):=by
 intro L s Y H R I h;refine cz (hl L s Y H _ I h) λv s1 ⟨x,H1,I1,r1,q1⟩=>?_
 obtain⟨a,e,⟨xs,hq⟩,q⟩:=q1;subst e;cases r1;obtain⟨its,rv,p,hz⟩:=I1.list hq;refine AK p.isList ?_;refine⟨s1⁻¹,[s1⁻¹],_,_,H1,rfl,I1.kept (t':=s1.toks) λb o e=>b0 _ e,Aw a _,⟨_,eJ _ rfl,rfl,rfl⟩,λb hb=>?_,q⟩
 have e:b=s1⁻¹:=by simpa using hb
 subst e;exact I1.uY (eD _) (I1.hok.fresh (eD _))
theorem Eh{l:Expr}{tl:TE}(hl:PE X l tl):PI X tg l (iTup X.K tl):=by
 intro L s Y H R I h;refine cz (hl L s Y H _ I h) λv s1 ⟨x,H1,I1,r1,q1⟩=>?_
 obtain⟨a,e,⟨xs,hq⟩,q⟩:=q1;subst e;cases r1;obtain⟨its,rv,p,hz⟩:=I1.tuple hq;refine t7 (show s1.heap.IsTuple a its.toArray from p) ?_
 refine⟨s1⁻¹,[s1⁻¹],_,_,H1,rfl,I1.kept (t':=s1.toks) λb o e=>b0 _ e,xK a _,⟨_,eJ _ rfl,rfl,rfl⟩,λb hb=>?_,q⟩
 have e:b=s1⁻¹:=by simpa using hb
 subst e;exact I1.uY (eD _) (I1.hok.fresh (eD _))
theorem uZ{L: ~~~1}{Y:St}{H:Hp}{s:Shared}{R:It->Hp->Prop}{E:Value->Shared->Prop}{lo hi:Int}{t u v:Tok}{tk:Nat}(I: ~~~7)(h1 : -(2 ^ 62)<=lo)(h2:lo<2 ^ 62)(h3 : -(2 ^ 62)<=hi)(h4:hi<2 ^ 62)
  (q:R (Qg lo (hi - lo).toNat) H):wpAny (~~~2) X.A (pyIter (.ref s⁻¹)) (PIE X L Y tg R) E { s with heap:=s.heap.push { cls:=.type "range",data:=.fields #[.int lo t,.int hi u,.int 1 v]},toks:=tk}:=by
 refine wpAny_pyIter_range (IsRange.new ..) (small_one h1 h2 h3 h4) ?_;have I1:Inv X L Y H { s with heap:=s.heap.push { cls:=.type "range",data:=.fields #[.int lo t,.int hi u,.int 1 v]},toks:=tk}:=I.kept λb o e=>b0 _ e
 refine⟨(s.heap.push { cls:=.type "range",data:=.fields #[.int lo t,.int hi u,.int 1 v]}).objs.size,[(s.heap.push { cls:=.type "range",data:=.fields #[.int lo t,.int hi u,.int 1 v]}).objs.size],_,_,H,rfl,
  I1.kept (t':=tk) λb o e=>b0 _ e,xM _ lo (hi - lo).toNat,?_,λb hb=>?_,q⟩
 .
  have e1:lo+((0:Nat):Int) * 1=lo:=by simp
  have e2:(((hi - lo).toNat:Nat):Int) - ((0:Nat):Int)=Builtin.Range.rangeSize lo hi 1:=by rw[rangeSize_one];split <;> lia
  show IsRangeIter _ _ (lo+((0:Nat):Int) * 1) ((((hi - lo).toNat:Nat):Int) - ((0:Nat):Int)) 1;rw[e1,e2];exact eJ _ rfl
 .
  have e:b=(s.heap.push { cls:=.type "range",data:=.fields #[.int lo t,.int hi u,.int 1 v]}).objs.size:=by simpa using hb
  subst e;exact I1.uY (eD _) (I1.hok.fresh (eD _))
def Wg(ta:TA):TI:=λY H R=>ta Y H λvs H1=>∃j:Int,vs=[.int j]/\-(2 ^ 62)<=j/\j<2 ^ 62/\R (Qg 0 j.toNat) H1
def Wh(ta:TA):TI:=λY H R=>ta Y H λvs H1=>∃i j:Int,vs=[.int i,.int j]/\(-(2 ^ 62)<=i/\i<2 ^ 62/\-(2 ^ 62)<=j/\j<2 ^ 62)/\R (Qg i (j - i).toNat) H1
theorem qR{a:Expr}{ta:TA}{p pos:Pos}(hg:Gl X "range")(hm:X.mg "range"=none)(ha:PA X [a] ta)(hs:starEach [a] X.env=[(false,eval a X.env)]:=by rfl):PI X tg (.Call (.Name "range" p) [a] [] pos) (Wg ta):=by
 intro L s Y H R I h;refine Call_ (eL I hg hm boot_range (l8 (cz (ha pos L s Y H _ I h) λus s1 ⟨vs,H1,I1,r1,q1⟩=>?_) hs rfl))
 obtain⟨j,e,q1,q2,q⟩:=q1;subst e;cases r1 with
 |cons r rr=>cases rr;obtain⟨t,rfl⟩:=r;exact call_range_1 (uZ I1 ⋯ ⋯ q1 q2 (by simpa using q))
theorem Ax{a b:Expr}{ta:TA}{p pos:Pos}(hg:Gl X "range")(hm:X.mg "range"=none)(ha:PA X [a,b] ta)(hs:starEach [a,b] X.env=[(false,eval a X.env),(false,eval b X.env)]:=by rfl)(hs2:starEach [b] X.env=[(false,eval b X.env)]:=by rfl) :
  PI X tg (.Call (.Name "range" p) [a,b] [] pos) (Wh ta):=by
 intro L s Y H R I h;refine Call_ (eL I hg hm boot_range (l8 (cz (ha pos L s Y H _ I h) λus s1 ⟨vs,H1,I1,r1,q1⟩=>?_) (by rw[hs,hs2]) (by rw[hs2];rfl)))
 obtain⟨i,j,e,⟨q1,q2,q3,q4⟩,q⟩:=q1;subst e;cases r1 with
 |cons r rr=>
  cases rr with
  |cons r' rr=>cases rr;obtain⟨t,rfl⟩:=r;obtain⟨t',rfl⟩:=r';exact call_range_2 (uZ I1 q1 q2 q3 q4 q)
noncomputable def tFor(wi:TI)(g:TG)(tb:TS):TS:=λD Y H=>wi Y H λJ H1=>∃W:Nat->Nat->St->Hp->Prop,(∃m,W 0 m Y H1)/\∀i m Y H,W i m Y H->
 (J.stop i H/\D.nx Y H)\/(J.go i H/\∃N:St->Hp->Prop,(∀σ' H',N σ' H'->∃m',m'<m/\W (i+1) m' σ' H')/\∀x H',J.Wd i H x H'->g x Y H' λσ2 H2=>tb { D with nx:=N,ct:=N,bk:=D.nx} σ2 H2)
noncomputable def kQ(fp:List Addr)(h:Heap): ~~~1:=fp.filterMap λb=>(h.get? b).map λo=>(b,o)
theorem dM{fp:List Addr}{h:Heap}{b:Addr}{o:Obj}(hb:b∈fp)(e:h.get? b=some o):(b,o)∈kQ fp h:=List.mem_filterMap.mpr ⟨b,hb,by rw[e];rfl⟩
theorem Ay(hp:p∈kQ fp h):p.1∈fp/\h.get? p.1=some p.2:=by
 obtain⟨b,hb,e⟩:=List.mem_filterMap.mp hp;cases q:h.get? b with
 |none=>rw[q]at e;cases e
 |some o=>rw[q]at e;have e':(b,o)=p:=rV e;subst e';exact⟨hb,q⟩
theorem Inv.pinned{L: ~~~1}{Y:St}{H:Hp}{s:Shared}{fp:List Addr}(I: ~~~7)(hf:∀b∈fp,jV X L H b)(ho:∀b∈fp,∃o,s.heap.get? b=some o/\∀v,o.data≠.cell v):Inv X (L++kQ fp s.heap) Y H s:=
 I.zf λp hp=>(AI.mp hp).elim (λz=>I.pin p (i7 _ z)) λz=>by
  obtain⟨hb,e⟩:=Ay z;obtain⟨f0,f1,f2,_⟩:=hf p.1 hb;obtain⟨o,e',d⟩:=ho p.1 hb;rw[e]at e';cases e';exact⟨e,f0,f1,f2,d⟩
theorem Inv.iC{L pl: ~~~1}{Y:St}{H:Hp}{s:Shared}(I:Inv X (L++pl) Y H s):Inv X L Y H s:=I.zf λp hp=>I.pin p (i7 _ (u4 _ hp))
theorem Ei{iter:Expr}{body:List Stmt}{wi:TI}{g:TG}{tb:TS}{pos:Pos}(hp:PassesOwn (~~~2) X.A X.env X.xe)(hc:X.calm=true)(hi:PI X tg iter wi)(hg:PG X tg g)(hb:uL X body tb)
  (hs:∀x,foldedSetIterable iter X.env x=pure x:=by intro _;rfl):PS X (.For tg iter body [] pos) (tFor wi g tb):=by
 intro L s Y H D I h;refine wpAny_For (cz (hi L s Y H _ I h) λv s1 h1=>cz h1 λitv s2 h2=>?_) hs
 obtain⟨it,fp,tn,J,H2,e,I2,T,aN,f2,W,⟨m0,w0⟩,turn⟩:=h2;subst e;have stat:∀{H':Hp},(∀b∈fp,H' b=none)->∀b∈fp,jV X L H' b:=λhn b hb=>⟨hn b hb,(f2 b hb).2⟩
 refine codeAny_forLoop_any (λn s'=>∃i σ' H',Inv X L σ' H' s'/\tn i s'.heap/\(∀b∈fp,H' b=none)/\W i n σ' H') ?_ m0 ⟨0,Y,H2,I2,aN,λb hb=>(f2 b hb).1,w0⟩
 rintro n s3 ⟨i,σ3,H3,I3,eK,Oc,w3⟩;rcases turn i n σ3 H3 w3 with ⟨stop,qn⟩ |⟨go,N,hN,step⟩
 .
  refine AJ hp (cz (T.done X rfl rfl rfl hc i L s3 σ3 H3 X.xe I3 (stat Oc) eK stop) λr s4 ⟨hr,I4⟩=>?_)
  subst hr;exact wpAny_execs_nil ⟨σ3,H3,I4,qn⟩
 .
  refine AJ hp (cz (T.item X rfl rfl rfl hc i L s3 σ3 H3 X.xe I3 (stat Oc) eK go) λr s4 ⟨u,hr,h4⟩=>?_)
  subst hr;refine AJ hp (cz h4 λ_ s5 ⟨x,H5,I5,r5,y5,kT,Wi⟩=>?_)
  have Wj:=I5.pinned (stat Wi) (T.obj _ _ kT);refine AJ hp (cz (hg _ s5 σ3 H5 x u _ Wj r5 (step x H5 y5)) λ_ s6 ⟨σ6,H6,I6,q6⟩=>?_)
  refine AJ hp (cz (hb _ s6 σ6 H6 _ I6 q6) λf s7 q7=>?_)
  have again:∀{σ7:St}{H7:Hp},Inv X (L++kQ fp s5.heap) σ7 H7 s7->N σ7 H7->∃m,m<n/\∃i σ' H',Inv X L σ' H' s7/\tn i s7.heap/\(∀b∈fp,H' b=none)/\W i m σ' H':=λ{σ7 H7} I7 n7=>by
   obtain⟨m',hm,w7⟩:=hN σ7 H7 n7;refine⟨m',hm,i+1,σ7,H7,I7.iC,T.keep _ _ _ kT λb hb o e=>(I7.pin (b,o) (i7 _ (i7 _ (dM hb e)))).1,λb hb=>?_,w7⟩
   obtain⟨o,e,d⟩:=T.obj _ _ kT b hb;exact (I7.pin (b,o) (i7 _ (i7 _ (dM hb e)))).2.1
  cases f with
  |next=>obtain⟨σ7,H7,I7,n7⟩:=q7;exact again I7 n7
  |cont=>obtain⟨σ7,H7,I7,n7⟩:=q7;exact again I7 n7
  |brk=>obtain⟨σ7,H7,I7,q7⟩:=q7;exact⟨σ7,H7,I7.iC,q7⟩
  |ret v=>obtain⟨x7,σ7,H7,I7,r7,q7⟩:=q7;exact⟨x7,σ7,H7,I7.iC,r7,q7⟩
end
abbrev R2:=V->V->Hp->VK->Prop
def kN(X:Cx)(f:Value->Value->Sem Value)(r:R2):Prop:=
 ∀(L: ~~~1) (s:Shared) (Y:St) (H:Hp) (x y:V) (v u:Value) (Q:VK),Inv X L Y H s->RelV x v->RelV y u->r x y H Q->
  wpAny (~~~2) X.A (f v u) (EP X L Y Q) X.xe s
def Zr(X:Cx)(f:Value->Sem Value)(r:V->Hp->VK->Prop):Prop:=
 ∀(L: ~~~1) (s:Shared) (Y:St) (H:Hp) (x:V) (v:Value) (Q:VK),Inv X L Y H s->RelV x v->r x H Q->
  wpAny (~~~2) X.A (f v) (EP X L Y Q) X.xe s
def fz(X:Cx)(f:Value)(r:List V->Hp->VK->Prop):Prop:=
 ∀(L: ~~~1) (s:Shared) (Y:St) (H:Hp) (xs:List V) (us:List Value) (Q:VK),Inv X L Y H s->Vals xs us->r xs H Q->
  wpAny (~~~2) X.A (call f us) (EP X L Y Q) X.xe s
def TruR(X:Cx)(r:V->Hp->(Bool->Hp->Prop)->Prop):Prop:=
 ∀(L: ~~~1) (s:Shared) (Y:St) (H:Hp) (x:V) (v:Value) (Q:Bool->Hp->Prop),Inv X L Y H s->RelV x v->r x H Q->
  wpAny (~~~2) X.A (truthy v) (TP X L Y Q) X.xe s
noncomputable def Zt(r:R2)(ta tb:TE):TE:=λY H Q=>ta Y H λx H1=>tb Y H1 λy H2=>r x y H2 Q
def tUn(r:V->Hp->VK->Prop)(ta:TE):TE:=λY H Q=>ta Y H λx H1=>r x H1 Q
noncomputable def rI(C:Int->Int->Prop)(g:Int->Int->V):R2:=λx y H Q=>∃i j,x=.int i/\y=.int j/\C i j/\Q (g i j) H
noncomputable def Du(g:Int->Int->V):R2:=λx y H Q=>∃i j,x=.int i/\y=.int j/\Q (g i j) H
def rU(g:Int->V):V->Hp->VK->Prop:=λx H Q=>∃i,x=.int i/\Q (g i) H
section
variable{X:Cx}{a b c:Expr}{ta tb tc:TE}{pos:Pos}
theorem Qh(ha:PE X a ta)(hb:PE X b tb){L: ~~~1}{s:Shared}{Y:St}{H:Hp}{R:V->V->Hp->Prop}(I: ~~~7)
  (h:ta Y H λx H1=>tb Y H1 λy H2=>R x y H2) {Q:Value->Shared->Prop}{f:Value->Value->Sem Value}
  (hf:∀v u s2 x y H2,Inv X L Y H2 s2->RelV x v->RelV y u->R x y H2->wpAny (~~~2) X.A (f v u) Q X.xe s2) :
  wpAny (~~~2) X.A (eval a X.env) (λv s₁=>wpAny (~~~2) X.A (eval b X.env) (λu s₂=>wpAny (~~~2) X.A (f v u) Q X.xe s₂) X.xe s₁) X.xe s:=by
 refine cz (ha L s Y H _ I h) λv s1 ⟨x,H1,I1,r1,q1⟩=>?_
 refine cz (hb L s1 Y H1 _ I1 q1) λu s2 ⟨y,H2,I2,r2,q2⟩=>?_
 exact hf v u s2 x y H2 I2 r1 r2 q2
theorem Wk{op:Operator}{r:R2}(ho:kN X (binaryOp op) r)(ha:PE X a ta)(hb:PE X b tb):PE X (.BinOp a op b pos) (Zt r ta tb):=by intro L s Y H Q I h;exact wpAny_BinOp (Qh ha hb I h λv u s2 x y H2 I2 rx ry q=>ho L s2 Y H2 x y v u Q I2 rx ry q)
theorem Od{op:UnaryOp}{r:V->Hp->VK->Prop}(ho:Zr X (unaryOp op) r)(ha:PE X a ta):PE X (.UnaryOp op a pos) (tUn r ta):=by intro L s Y H Q I h;exact UnaryOp_ (cz (ha L s Y H _ I h) λv s1 ⟨x,H1,I1,r1,q1⟩=>ho L s1 Y H1 x v Q I1 r1 q1)
theorem Wm{f:Value->Value->Sem Value}{C:Int->Int->Prop}{g:Int->Int->Int}
  (rule:∀(i j:Int) (t u:Tok) (s:Shared) (Q:Value->Shared->Prop) (E:Value->Shared->Prop),C i j->Q (.int (g i j) s.toks) { s with toks:=s.toks+1}->wpAny (~~~2) X.A (f (.int i t) (.int j u)) Q E s) :
  kN X f (rI C λi j=>.int (g i j)):=by
 intro L s Y H x y v u Q I rx ry h;obtain⟨i,j,rfl,rfl,hc,q⟩:=h;obtain⟨t,rfl⟩:=rx;obtain⟨t',rfl⟩:=ry;exact rule i j t t' s _ _ hc ⟨.int (g i j),H,I.tok _,⟨_,rfl⟩,q⟩
theorem JX{f:Value->Value->Sem Value}{g:Int->Int->Int}
  (rule:∀(i j:Int) (t u:Tok) (s:Shared) (Q:Value->Shared->Prop) (E:Value->Shared->Prop),Q (.int (g i j) s.toks) { s with toks:=s.toks+1}->wpAny (~~~2) X.A (f (.int i t) (.int j u)) Q E s) :
  kN X f (Du λi j=>.int (g i j)):=by
 intro L s Y H x y v u Q I rx ry h;obtain⟨i,j,rfl,rfl,q⟩:=h;obtain⟨t,rfl⟩:=rx;obtain⟨t',rfl⟩:=ry;exact rule i j t t' s _ _ ⟨.int (g i j),H,I.tok _,⟨_,rfl⟩,q⟩
theorem JZ{f:Value->Value->Sem Value}{g:Int->Int->Bool}
  (rule:∀(i j:Int) (t u:Tok) (s:Shared) (Q:Value->Shared->Prop) (E:Value->Shared->Prop),Q (.bool (g i j)) s->wpAny (~~~2) X.A (f (.int i t) (.int j u)) Q E s) :
  kN X f (Du λi j=>.bl (g i j)):=by
 intro L s Y H x y v u Q I rx ry h;obtain⟨i,j,rfl,rfl,q⟩:=h;obtain⟨t,rfl⟩:=rx;obtain⟨t',rfl⟩:=ry;exact rule i j t t' s _ _ ⟨.bl (g i j),H,I,rfl,q⟩
def CDiv(i j:Int):Prop:=0<j/\j<1073741824
def CPow(i j:Int):Prop:=0<=j/\j<=1000000/\i.natAbs<2 ^ 64
def J0(i j:Int):Prop:=(-(2 ^ 64)<i/\i<2 ^ 64)\/(-(2 ^ 64)<j/\j<2 ^ 64)
theorem J0.ok{i j:Int}(h:J0 i j):IntMulOk i j:=by
 rcases h with ⟨h1,h2⟩ |⟨h1,h2⟩
 . exact .of_left (intBits_le_64 h1 h2)
 . exact .of_right (intBits_le_64 h1 h2)
theorem Qi:kN X (binaryOp .Add) (Du λi j=>.int (i+j)):=JX λ_ _ _ _ _ _ _ q=>add_int q
theorem Qj:kN X (binaryOp .Sub) (Du λi j=>.int (i - j)):=JX λ_ _ _ _ _ _ _ q=>sub_int q
theorem Qk:kN X (binaryOp .Mult) (rI J0 λi j=>.int (i * j)):=Wm λ_ _ _ _ _ _ _ hc q=>mul_int q hc.ok
theorem J1:kN X (binaryOp .FloorDiv) (rI CDiv λi j=>.int (i / j)):=Wm λi j _ _ _ _ _ hc q=>by
 have h1:(0:Int)<j:=hc.1;have h2:j<1073741824:=hc.2;exact floordiv_int ⋯ (by rw[Int.fdiv_eq_ediv_of_nonneg i ⋯];exact q) (.inl (PyProof.noPylong_small ⋯))
theorem Ql:kN X (binaryOp .Mod) (rI (λ_ j=>0<j) λi j=>.int (i % j)):=Wm λi j _ _ _ _ _ hc q=>by
 have h1:(0:Int)<j:=hc;exact mod_int' ⋯ (by rw[Int.fmod_eq_emod_of_nonneg i ⋯];exact q)
theorem sJ:kN X (binaryOp .Pow) (rI CPow λi j=>.int (i ^ j.toNat)):=Wm λ_ _ _ _ _ _ _ hc q=>pow_int_small hc.1 hc.2.1 hc.2.2 q
theorem J2:kN X (inplaceOp .Add) (Du λi j=>.int (i+j)):=JX λ_ _ _ _ _ _ _ q=>iadd_int q
theorem J3:kN X (inplaceOp .Sub) (Du λi j=>.int (i - j)):=JX λ_ _ _ _ _ _ _ q=>isub_int q
theorem J4:kN X (inplaceOp .Mult) (rI J0 λi j=>.int (i * j)):=Wm λ_ _ _ _ _ _ _ hc q=>imul_int q hc.ok
theorem unI{f:Value->Sem Value}{g:Int->Int}
  (rule:∀(i:Int) (t:Tok) (s:Shared) (Q:Value->Shared->Prop) (E:Value->Shared->Prop),Q (.int (g i) s.toks) { s with toks:=s.toks+1}->wpAny (~~~2) X.A (f (.int i t)) Q E s) :
  Zr X f (rU λi=>.int (g i)):=by
 intro L s Y H x v Q I rx h;obtain⟨i,rfl,q⟩:=h;obtain⟨t,rfl⟩:=rx;exact rule i t s _ _ ⟨.int (g i),H,I.tok _,⟨_,rfl⟩,q⟩
theorem Ej:Zr X (unaryOp .USub) (rU λi=>.int (-i)):=unI λ_ _ _ _ _ q=>neg_int q
end
section
variable{X:Cx}{a b c:Expr}{ta tb tc:TE}{pos:Pos}
theorem Wn:kN X (compareOp .Lt) (Du λi j=>.bl (decide (i<j))):=JZ λ_ _ _ _ _ _ _ q=>lt_int q
theorem Wo:kN X (compareOp .LtE) (Du λi j=>.bl (decide (i<=j))):=JZ λ_ _ _ _ _ _ _ q=>le_int q
theorem Wq:kN X (compareOp .Gt) (Du λi j=>.bl (decide (j<i))):=JZ λ_ _ _ _ _ _ _ q=>gt_int q
theorem Wr:kN X (compareOp .GtE) (Du λi j=>.bl (decide (j<=i))):=JZ λ_ _ _ _ _ _ _ q=>ge_int q
theorem J5{op:CmpOp}{r:R2}(ho:kN X (compareOp op) r)(ha:PE X a ta)(hb:PE X b tb)(hm:behindInMarks op b=false):PE X (.Compare a [op] [b] pos) (Zt r ta tb):=by intro L s Y H Q I h;exact wpAny_Compare1 (Qh ha hb I h λv u s2 x y H2 I2 rx ry q=>ho L s2 Y H2 x y v u Q I2 rx ry q) hm
def Ws(t:TE):TT:=λY H Q=>t Y H λx H'=>∃k,x=.bl k/\Q k H'
theorem J6{op:CmpOp}{r:R2}(ho:kN X (compareOp op) r)(ha:PE X a ta)(hb:PE X b tb)(hm:behindInMarks op b=false):PT X (.Compare a [op] [b] pos) (Ws (Zt r ta tb)):=by
 intro L s Y H Q I h;refine wpAny_isTrue_Compare1 (cz (ha L s Y H _ I h) λv s1 ⟨x,H1,I1,r1,q1⟩=>cz (hb L s1 Y H1 _ I1 q1) λu s2 ⟨y,H2,I2,r2,q2⟩=>
  cz (ho L s2 Y H2 x y v u _ I2 r1 r2 q2) λc s3 ⟨z,H3,I3,r3,k,e,q3⟩=>?_) hm
 subst e;cases r3;exact nV ⟨H3,I3,q3⟩
def Wt(K:Frag)(x:V)(H:Hp)(k:Bool):Prop:=
 match x with
 |.non=>k=false
 |.bl b=>k=b
 |.int i=>k=(i != 0)
 |.str y=>y.length<=sizeLine/\k=((y.length:Int) != 0)
 |.P0 y=>y.size<=sizeLine/\k=((y.size:Int) != 0)
 |.ref p=>(∃xs,cB K H p xs/\k=!xs.isEmpty)\/(∃xs,fV K H p xs/\k=!xs.isEmpty)\/∃eH,H p=some (.dK eH)/\k=!eH.isEmpty
 |_=>False
theorem xN{κ:Type}{eH:List (κ×V)}{vs:List (κ×Value)}(r:KV eH vs):(!vs.isEmpty)=!eH.isEmpty:=by cases r <;> rfl
theorem n8{xs:List V}{its:List Value}(r:Vals xs its):(!its.toArray.isEmpty)=!xs.isEmpty:=by cases r <;> simp
theorem n9:(sizeLine:Nat)<2 ^ 63:=by rw[nS];decide
theorem Qm:TruR X (λx H Q=>∃k,Wt X.K x H k/\Q k H):=by
 intro L s Y H x v Q I rx h;obtain⟨k,e,q⟩:=h;have hl:=n9;have hs:sizeLine=16777216:=nS;cases x with
 |non=>cases rx;have e':k=false:=e;subst e';exact truthy_none ⟨H,I,q⟩
 |bl b=>cases rx;have e':k=b:=e;subst e';exact nV ⟨H,I,q⟩
 |int i=>obtain⟨t,rfl⟩:=rx;have e':k=(i != 0):=e;subst e';exact PySem.P.truthy_int ⟨H,I,q⟩
 |str y=>obtain⟨t,rfl⟩:=rx;obtain⟨hy,e'⟩:y.length<=sizeLine/\k=((y.length:Int) != 0):=e;subst e';exact PySem.P.truthy_str ⋯ ⟨H,I.tok _,q⟩
 |P0 y=>obtain⟨t,rfl⟩:=rx;obtain⟨hy,e'⟩:y.size<=sizeLine/\k=((y.size:Int) != 0):=e;subst e';exact PySem.W.truthy_bytes ⋯ ⟨H,I.tok _,q⟩
 |ref p=>
  cases rx;have e':(∃xs,cB X.K H p xs/\k=!xs.isEmpty)\/(∃xs,fV X.K H p xs/\k=!xs.isEmpty)\/∃eH,H p=some (.dK eH)/\k=!eH.isEmpty:=e;rcases e' with ⟨xs,hx,e'⟩ |⟨xs,hx,e'⟩ |⟨eH,hx,e'⟩
  . subst e';obtain⟨its,r,pl,hz⟩:=I.list hx;have aL:=r.length;exact wpAny_truthy_list pl.isList (by simp only[dC];lia) ⟨H,I.tok _,by rw[n8 r];exact q⟩
  . subst e';obtain⟨its,r,pl,hz⟩:=I.tuple hx;have aL:=r.length;exact truthy_tuple pl (by simp only[dC];lia) ⟨H,I.tok _,by rw[n8 r];exact q⟩
  . subst e';obtain⟨hz,hS,vs,r,m⟩:eH.length<=sizeLine/\(p==sysModules)=false/\∃vs,KV eH vs/\s.heap.DictOf (gX X.prog X.w) p vs:=I.hok p _ hx;have aL:eH.length=vs.length:=Paired.length r;exact wpAny_truthy_dict hS m ⋯ ⟨H,I.tok _,by rw[xN r];exact q⟩
 |_=>exact (show False from e).elim
theorem Ek(ha:PE X a ta)(he:∀whole,isTrue a X.env whole=(do let v <- whole;standAt a.pos;holding [v] (truthy v))) :
  PT X a (λY H Q=>ta Y H λx H'=>∃k,Wt X.K x H' k/\Q k H'):=by
 intro L s Y H Q I h;exact isTrue_plain (cz (ha L s Y H _ I h) λv s1 ⟨x,H1,I1,r1,q1⟩=>Qm L s1 Y H1 x v Q I1 r1 q1) (he _)
theorem vals1(r:Vals [x] us):∃u,us=[u]/\RelV x u:=by
 cases r with
 |cons r1 r2=>cases r2;exact⟨_,rfl,r1⟩
theorem vals2(r:Vals [x,y] us):∃u w',us=[u,w']/\RelV x u/\RelV y w':=by
 cases r with
 |cons r1 r2=>
  cases r2 with
  |cons r3 r4=>cases r4;exact⟨_,_,rfl,r1,r3⟩
theorem Az(hc:X.calm=true):fz X (.builtin "max") (λxs H Q=>∃i j,xs=[.int i,.int j]/\Q (.int (if j > i then j else i)) H):=by
 intro L s Y H xs us Q I r h;obtain⟨i,j,rfl,q⟩:=h;obtain⟨u,w',rfl,⟨t,rfl⟩,⟨t',rfl⟩⟩:=vals2 r;refine max_two_ints (I.ok.hd hc) λh' tk k=>⟨_,H,I.kept k,?_,q⟩
 by_cases hj:j > i
 . rw[fN hj,fN hj];exact⟨_,rfl⟩
 . rw[hU hj,hU hj];exact⟨_,rfl⟩
theorem Ba(hc:X.calm=true):fz X (.builtin "min") (λxs H Q=>∃i j,xs=[.int i,.int j]/\Q (.int (if j<i then j else i)) H):=by
 intro L s Y H xs us Q I r h;obtain⟨i,j,rfl,q⟩:=h;obtain⟨u,w',rfl,⟨t,rfl⟩,⟨t',rfl⟩⟩:=vals2 r;refine min_two_ints (I.ok.hd hc) λh' tk k=>⟨_,H,I.kept k,?_,q⟩
 by_cases hj:j<i
 . rw[fN hj,fN hj];exact⟨_,rfl⟩
 . rw[hU hj,hU hj];exact⟨_,rfl⟩
def LenV(K:Frag)(x:V)(H:Hp)(n:Nat):Prop:=
 match x with
 |.str y=>y.length<=sizeLine/\n=y.length
 |.P0 y=>y.size<=sizeLine/\n=y.size
 |.ref p=>(∃xs,cB K H p xs/\n=xs.length)\/∃xs,fV K H p xs/\n=xs.length
 |_=>False
theorem El:fz X (.builtin "len") (λxs H Q=>∃x n,xs=[x]/\LenV X.K x H n/\Q (.int n) H):=by
 intro L s Y H xs us Q I r h;obtain⟨x,n,rfl,e,q⟩:=h;obtain⟨u,rfl,rx⟩:=vals1 r;have hl:=n9;have hs:sizeLine=16777216:=nS;cases x with
 |str y=>obtain⟨t,rfl⟩:=rx;obtain⟨hy,e'⟩:y.length<=sizeLine/\n=y.length:=e;subst e';exact len_str ⋯ ⟨.int _,H,I.tok _,⟨_,rfl⟩,q⟩
 |P0 y=>obtain⟨t,rfl⟩:=rx;obtain⟨hy,e'⟩:y.size<=sizeLine/\n=y.size:=e;subst e';exact PySem.W.len_bytes ⋯ ⟨.int _,H,I.tok _,⟨_,rfl⟩,q⟩
 |ref p=>
  cases rx;have e':(∃xs,cB X.K H p xs/\n=xs.length)\/∃xs,fV X.K H p xs/\n=xs.length:=e;rcases e' with ⟨xs,hx,e'⟩ |⟨xs,hx,e'⟩
  . subst e';obtain⟨its,r',pl,hz⟩:=I.list hx;have aL:=r'.length;exact Calls.call_len_list pl.isList (by simp only[dC];lia) ⟨.int xs.length,H,I.tok _,⟨_,by simp only[dC];rw[aL]⟩,q⟩
  . subst e';obtain⟨its,r',pl,hz⟩:=I.tuple hx;have aL:=r'.length;exact len_tuple pl (by simp only[dC];lia) ⟨.int xs.length,H,I.tok _,⟨_,by simp only[dC];rw[aL]⟩,q⟩
 |_=>exact (show False from e).elim
end
structure gj(k:Nat)(A:Around):Prop where
 hd:A.handled=none
 dp:A.depth+3 * k+5<recursionLimit
 un:A.units+16 * k+200<cLine
theorem gj.deeper(r:gj (k+1) A)(env:Env):gj k (A.deeper env):=
 ⟨r.hd,by have:=r.dp;show A.depth+1+3 * k+5<_;lia,by have:=r.un;show A.units+3+16 * k+200<_;lia⟩
theorem gj.depth{k:Nat}{A:Around}(r:gj k A):A.depth<recursionLimit:=by have:=r.dp;lia
theorem gj.units{k:Nat}{A:Around}(r:gj k A):A.units+64<cLine:=by have:=r.un;lia
theorem gj.Qn{k:Nat}{A:Around}(r:gj k A):A.units<cLine:=by have:=r.un;lia
def tNil:TA:=λ_ H Q=>Q [] H
noncomputable def Wu(ta:TE)(tr:TA):TA:=λY H Q=>ta Y H λx H1=>tr Y H1 λxs H2=>Q (x::xs) H2
section
variable{X:Cx}{e:Expr}{es:List Expr}{te:TE}{t:TA}{pos:Pos}
theorem oh:PA X [] tNil:=λ_ _ _ _ H Q I h=>Calls.spliced_nil ⟨[],H,I,.nil,h⟩
theorem iX(ha:PE X e te)(hr:PA X es t)(hs:starEach (e::es) X.env=(false,eval e X.env)::starEach es X.env:=by rfl):PA X (e::es) (Wu te t):=by
 intro pos L s Y H Q I h;rw[hs];show wpAny _ _ (spliced ((false,eval e X.env)::backTo pos (starEach es X.env))) _ _ s;refine Calls.spliced_cons (cz (ha L s Y H _ I h) λu s1 ⟨x,H1,I1,r1,q1⟩=>?_)
 exact cz (hr pos L s1 Y H1 _ I1 q1) λus s2 ⟨xs,H2,I2,r2,q2⟩=>⟨x::xs,H2,I2,.cons r1 r2,q2⟩
def tTup(t:TA):TE:=λY H Q=>t Y H λxs H1=>xs.length<=sizeLine/\∀p,H1 p=none->Q (.ref p) (upd H1 p (.tup xs))
def Wv(t:TA):TE:=λY H Q=>t Y H λxs H1=>xs.length<=sizeLine/\∀p,H1 p=none->Q (.ref p) (upd H1 p (.lst xs))
theorem Em{x1}(h:PA X es t):PE X (.Tuple es x1 pos) (tTup t):=by
 intro L s Y H Q I hq;refine wpAny_Tuple_spliced (cz (h pos L s Y H _ I hq) λus s1 ⟨xs,H1,I1,r,z,q⟩=>⟨by rw[<- r.length];exact z,?_⟩)
 have hf:H1 s1⁻¹=none:=I1.hok.fresh (eD _);refine⟨.ref s1⁻¹,upd H1 s1⁻¹ (.tup xs),I1.laid (t':=s1.toks) (λb u e=>b0 _ e) (eD _) ?_,rfl,q _ hf⟩
 exact⟨z,us,r,⟨_,eJ _ rfl,⟨rfl,_,rfl⟩,rfl⟩⟩
theorem En(h:PA X es t):PE X (.List es pos) (Wv t):=by
 intro L s Y H Q I hq;refine wpAny_List_spliced (cz (h pos L s Y H _ I hq) λus s1 ⟨xs,H1,I1,r,z,q⟩=>⟨by rw[<- r.length];exact z,?_⟩)
 have hf:H1 s1⁻¹=none:=I1.hok.fresh (eD _);refine⟨.ref s1⁻¹,upd H1 s1⁻¹ (.lst xs),I1.laid (t':=s1.toks) (λb u e=>b0 _ e) (eD _) ?_,rfl,q _ hf⟩
 exact⟨z,us,0,r,eJ _ rfl⟩
end
abbrev Sp:=List V->Hp->VK->XK->Prop
abbrev Eo:=List Env->Hp->Shared->XK->Value->Shared->Prop
structure J7(P:Program)(w:World)(K:Frag)(mg:Str->Option Value)(base:Heap)(A:Around)(outer:List Env)(s:Shared)(H:Hp):Prop where
 frames:A.frames=some outer
 mod:Mod K mg base
 bs:∀b o,base.get? b=some o->s.heap.get? b=some o/\H b=none
 JM:base.objs.size<=s⁻¹
 nj:s.heap.FunFrames base outer
 P5:∀b∈frs outer,H b=none
 hok:n5 P w H s.heap
 bare:AllBare s.gens
def CE(outer:List Env)(P:Program)(w:World)(H:Hp)(s:Shared)(Q:VK)(u:Value)(s':Shared):Prop:=
 ∃v H',s'.os=s.os/\AllBare s'.gens/\Un (frs outer) [] H H' s.heap s'.heap/\n5 P w H' s'.heap/\RelV v u/\Q v H'
def CR(CX:Eo)(outer:List Env)(P:Program)(w:World)(H:Hp)(s:Shared)(Q:VK)(E:XK)(r:Result)(s':Shared):Prop:=
 match r with
 |.ok (.ret u)=>CE outer P w H s Q u s'
 |.ok _=>False
 |.error e=>CX outer H s E e s'
structure qq(P:Program)(w:World)(K:Frag)(mg:Str->Option Value)(base:Heap)(CX:Eo)(k:Nat)(f:Addr)(fd:FuncData)(ps:List Str)(sp:Sp):Prop where
 len:∀vs H Q E,sp vs H Q E->vs.length=ps.length
 run:∀(A:Around) (outer:List Env) (s:Shared) (H:Hp) (args:Args) (us:List Value) (vs:List V) (Q:VK) (E:XK),gj k A->J7 P w K mg base A outer s H->BindsTo s fd args (ps.zip us)->Vals vs us->sp vs H Q E->
  codeAny (model P w) A (.call (.ref f) args) (CR CX outer P w H s Q E) s
section
variable{X:Cx}{L: ~~~1}{Y:St}{H:Hp}{s s':Shared}
theorem Inv.env0(I: ~~~7):J7 X.prog X.w X.K X.mg X.base X.A X.stack s H:=
 ⟨I.ok.frames,I.ok.mod,I.bs,kA I.ok.JM I.sz,I.stack,I.zc,I.hok,I.bare⟩
theorem Inv.after(I: ~~~7)(h:CE X.stack X.prog X.w H s Q u s'):EP X L Y Q u s':=by obtain⟨v,H',os,bare,un,hok,r,q⟩:=h;obtain⟨hh,g,d,t,os'⟩:=s';obtain rfl:os'=s.os:=os;exact⟨v,H',I.call (h':=hh) (g':=g) (d':=d) (t':=t) (ch:=[]) un hok bare (λb z=>absurd z ⋯),r,q⟩
end
noncomputable def Ww(sp:Sp)(fB:List V)(E:XK)(t:TA):TE:=λY H Q=>t Y H λvs H1=>sp (vs++fB) H1 Q E
def Binds(K:Frag)(fd:FuncData)(ps:List Str)(ds:List Value):Prop:=
 ∀(s:Shared) (us:List Value),K.In s.heap->(us++ds).length=ps.length->BindsTo s fd ⟨us,[]⟩ (ps.zip (us++ds))
theorem Binds.all{K:Frag}{fd:FuncData}{ps:List Str}(h:∀us:List Value,us.length=ps.length->bindArgs fd ⟨us,[]⟩=pure (ps.zip us)):Binds K fd ps []:=λs us _ hl=>by
 rw[n0]at hl ⊢
 exact .of_eq (h us hl)
def Passes(CX:Eo)(X:Cx)(E:XK):Prop:=∀(L: ~~~1) (Y:St) (H:Hp) (s:Shared) (e:Value) (s':Shared),Inv X L Y H s->CX X.stack H s E e s'->X.xe e s'
section
variable{X:Cx}{CX:Eo}{k:Nat}{f C:Addr}{fd:FuncData}{ps:List Str}{sp:Sp}{fB:List V}{ds:List Value}{E:XK}{x m:Str}{p pos dY:Pos}{e o:Expr}{es:List Expr}{ta:TE}{t:TA}
theorem Qo{L: ~~~1}{Y:St}{H:Hp}{s:Shared}{Q:VK}{us:List Value}{vs:List V}(F:qq X.prog X.w X.K X.mg X.base CX k f fd ps sp)(hr:gj k X.A)(hb:Binds X.K fd ps ds)(hd:Vals fB ds)(hx:Passes CX X E)
  (I: ~~~7) (r:Vals vs us) (h:sp (vs++fB) H Q E):wpAny (~~~2) X.A (call (.ref f) us) (EP X L Y Q) X.xe s:=by
 have r2:Vals (vs++fB) (us++ds):=r.append hd;have hl:(us++ds).length=ps.length:=by rw[<- r2.length];exact F.len _ _ _ _ h
 refine wpAny_call (codeAny_mono (F.run X.A X.stack s H ⟨us,[]⟩ (us++ds) (vs++fB) Q E hr I.env0 (hb s us I.uT hl) r2 h) λr s' hq=>?_)
 cases r with
 |error e=>exact hx L Y H s e s' I hq
 |ok fl=>
  cases fl with
  |ret u=>exact I.after hq
  |next=>exact False.elim hq
  |brk=>exact False.elim hq
  |cont=>exact False.elim hq
theorem J8(F:qq X.prog X.w X.K X.mg X.base CX k f fd ps sp)(hr:gj k X.A)(hg:Gl X x)(hm:X.mg x=some (.ref f))(hk:PySem.W.keepIn X.K (.ref f)=true)(hb:Binds X.K fd ps ds)(hd:Vals fB ds)(hx:Passes CX X E)
  (ha:PA X (e::es) t) (Am:(x==(~~~3))=false:=by decide) (he:starEach (e::es) X.env=(false,eval e X.env)::starEach es X.env:=by rfl) (mh:(backTo pos (starEach es X.env)).any (·.1)=false:=by rfl) :
  PE X (.Call (.Name x p) (e::es) [] pos) (Ww sp fB E t):=by
 intro L s Y H Q I h;refine BM (zg I hg hm ?_ Am);refine PySem.W.callWith_K (h₀:=X.base) I.ok.mod.Zk hk (cz (ha pos L s Y H _ I h) λus s1 ⟨vs,H1,I1,r,q⟩=>⟨I1.uT,?_⟩) he mh
 exact Qo F hr hb hd hx I1 r q
end
structure fW(N P:List Str)(sc:Scope):Prop where
 kind:sc.kind=.function
 co:sc.isCoroutine=false
 gen:sc.isGenerator=false
 nd:N.Nodup
 pre:N.take P.length=P
 par:∀x∈P,sc.names.lookup x=some .local\/sc.names.lookup x=some .cell
 Qp:∀y∈sc.names,y.2≠.free
theorem qU{kindOf:Str->Option NameKind}{x:Str}:∀{binds:List (Str×Value)}{m:Str->Option Value},(∀v,(x,v)∉binds)->bindL kindOf binds m x=m x
 | [],_,_=>rfl
 | (n,v)::r,m,h=>by
  unfold bindL;rw[qU λw hw=>h w (bP _ hw)]
  split
  .
   have:x≠n:=by rintro rfl;exact h v c8
   simp[this]
  . rfl
theorem qV{kindOf:Str->Option NameKind}{x:Str}:∀{binds:List (Str×Value)}{m:Str->Option Value},(∀v,(x,v)∉binds)->bindC kindOf binds m x=m x
 | [],_,_=>rfl
 | (n,v)::r,m,h=>by
  unfold bindC;rw[qV λw hw=>h w (bP _ hw)]
  split
  . rfl
  .
   have:x≠n:=by rintro rfl;exact h v c8
   simp[this]
theorem qW{kindOf:Str->Option NameKind}{x:Str}{v:Value}:∀{P:List Str}{vs:List Value}{i:Nat}{m:Str->Option Value},P.Nodup->P[i]?=some x->vs[i]?=some v->kindOf x=some .local->
  bindL kindOf (P.zip vs) m x=some v
 | [],_,_,_,_,h,_,_=>by simp at h
 |_::_,[],_,_,_,_,h,_=>by simp at h
 |p::P,w::vs,0,m,nd,h1,h2,hk=>by
  simp at h1 h2;subst h1;subst h2;show bindL kindOf ((p,w)::P.zip vs) m p=_;unfold bindL;rw[qU λv hv=>(hV.mp nd).1 (C3 hv).1,fN hk]
  simp
 |p::P,w::vs,i+1,m,nd,h1,h2,hk=>by
  show bindL kindOf ((p,w)::P.zip vs) m x=_;unfold bindL;exact qW (i:=i) (hV.mp nd).2 (by simpa using h1) (by simpa using h2) hk
theorem qX{kindOf:Str->Option NameKind}{x:Str}{v:Value}:∀{P:List Str}{vs:List Value}{i:Nat}{m:Str->Option Value},P.Nodup->P[i]?=some x->vs[i]?=some v->kindOf x≠some .local->
  bindC kindOf (P.zip vs) m x=some v
 | [],_,_,_,_,h,_,_=>by simp at h
 |_::_,[],_,_,_,_,h,_=>by simp at h
 |p::P,w::vs,0,m,nd,h1,h2,hk=>by
  simp at h1 h2;subst h1;subst h2;show bindC kindOf ((p,w)::P.zip vs) m p=_;unfold bindC;rw[qV λv hv=>(hV.mp nd).1 (C3 hv).1,hU hk]
  simp
 |p::P,w::vs,i+1,m,nd,h1,h2,hk=>by
  show bindC kindOf ((p,w)::P.zip vs) m x=_;unfold bindC;exact qX (i:=i) (hV.mp nd).2 (by simpa using h1) (by simpa using h2) hk
noncomputable def start(N:List Str)(vs:List V):St:=vs.map some++List.replicate (N.length - vs.length) none
noncomputable def u5(CX:Eo)(P:Program)(w:World)(K:Frag)(mg:Str->Option Value)(base:Heap)(N:List Str)(qual:Str)(scope:Scope)(f:Addr)(cd:Value)(A:Around)(outer:List Env)(s:Shared)(H:Hp)(E:XK):Cx where
 prog:=P
 w:=w
 K:=K
 mg:=mg
 base:=base
 A:=A.deeper (envOfC qual scope s⁻¹ f cd)
 N:=N
 s₀:=s
 H₀:=H
 env:=envOfC qual scope s⁻¹ f cd
 outer:=outer
 stack:=envOfC qual scope s⁻¹ f cd::outer
 ex:=[]
 calm:=true
 fn:=λ_=>true
 pn:=[]
 xe:=λe s'=>wpAny (model P w) (A.deeper (envOfC qual scope s⁻¹ f cd)) (leaving (envOfC qual scope s⁻¹ f cd) e) (λ_ s''=>CX outer H s E e s'') (λe' s''=>CX outer H s E e' s'') s'
theorem u6{sc:Scope}{n:Nat}{x:Str}(h:sc.names.lookup x=some .cell):∃c,(cellsFrom n sc.names []).lookup x=some c:=by have q:=PySem.W.cellsFrom_some sc.names n [] (.inl h);exact Option.isSome_iff_exists.mp q
theorem Bb{CX:Eo}{P:Program}{w:World}{K:Frag}{mg:Str->Option Value}{base:Heap}{N ps:List Str}{qual:Str}{scope:Scope}{f:Addr}{cd:Value}{A:Around}{outer:List Env}{s s1:Shared}{H:Hp}{E:XK}{us:List Value}{vs:List V}
  (S:fW N ps scope) (hd:A.handled=none) (e0:J7 P w K mg base A outer s H) (hl:vs.length=ps.length) (r:Vals vs us)
  (x:InCallC s s⁻¹ (bindL (envOfC qual scope s⁻¹ f cd).kindOf (ps.zip us) λ_=>none) (cellsFrom (s⁻¹+1) scope.names []) (bindC (envOfC qual scope s⁻¹ f cd).kindOf (ps.zip us) λ_=>none) s1) :
  Inv (u5 CX P w K mg base N qual scope f cd A outer s H E) [] (start N vs) H s1:=by
 have mh:ps.length<=N.length:=by have:=congrArg List.length S.pre;rw[u8]at this;lia
 obtain⟨h1,tk,rfl,hk⟩:=x.done;have Wx:∀b:Addr,b∉(u5 CX P w K mg base N qual scope f cd A outer s H E).ex:=λb z=>absurd (show b∈([]:List Addr)from z) ⋯
 refine⟨⟨e0.mod,S.kind,rfl,rfl,eD _,λy z c h1 h2=>?_,λy hy=>?_,λy c _ h=>?_,λ_=>hd,Around.frames_deeper e0.frames,.inr ⟨rfl,rfl⟩,λb z=>absurd z (Wx b),e0.bs,e0.JM,λb _ _=>Wx b,λb z=>absurd z (Wx b),e0.nj,e0.P5⟩,
  rfl,e0.bare,Un.kept hk,⟨_,x.toInCall.ns,λi y v h1 h2 h3=>?_⟩,λy c h=>⟨_,x.cell y c h⟩,e0.hok.fresh (eD _),λy c h=>?_,λp hp=>absurd (show p∈([]: ~~~1)from hp) ⋯,e0.hok.kept hk,?_⟩
 . exact name_of_addr x.apart (AM h1) (AM h2)
 .
  have hy:scope.names.lookup y=some .cell\/scope.names.lookup y=some .free:=hy;rcases hy with hy |hy
  . exact u6 hy
  . exact absurd rfl (S.Qp _ (AM hy))
 . exact Nat.le_of_lt (x.above y c (AM h))
 .
  have hi:i<vs.length:=by
   unfold start at h2;by_cases hi:i<vs.length
   . exact hi
   .
    rw[eQ (by simpa using hi)]at h2
    rw[List.getElem?_replicate]at h2;split at h2 <;> cases h2
  have ha:vs[i]?=some v:=by
   unfold start at h2;rw[dS (by simpa using hi),tJ]at h2
   cases e:vs[i]? with
   |none=>rw[e]at h2;cases h2
   |some a=>rw[e]at h2;cases h2;rfl
  obtain⟨u,hu,rv⟩:=r.get ha;have hp:ps[i]?=some y:=by rw[<- S.pre,pE ⋯];exact h1
  have ndP:ps.Nodup:=by rw[<- S.pre];exact S.nd.sublist (List.take_sublist _ _)
  refine⟨u,rv,?_⟩;rcases S.par y (l6 hp)with k |k
  . exact .inl ⟨k,qW ndP hp hu k⟩
  .
   obtain⟨c,e⟩:=u6 (n:=s⁻¹+1) k;refine .inr ⟨.inl k,c,e,?_⟩;have q:=x.cell y c e;rw[qX ndP hp hu (by show scope.names.lookup y≠_;rw[k];decide)]at q
   exact q
 . exact e0.hok.fresh (Nat.le_of_lt (x.above y c (AM h)))
 . unfold start;show _=N.length;rw[eC,eA,i6];lia
theorem Wy{CX:Eo}{P:Program}{w:World}{K:Frag}{mg:Str->Option Value}{base:Heap}{k:Nat}{f:Addr}{name qual:Str}{params:Arguments}{body:List Stmt}{scope:Scope}{dV kV doc pm gg ct oc:Value}{an od:Option Addr}
  {osl:Array (Option Value)}{N ps:List Str}{sp:Sp} (lk:K.lookup f=some ⟨oc,od,.func (PySem.W.fnOf name qual params body scope dV kV doc pm an gg ct),osl⟩) (eF:PySem.W.codeIn K gg qual=true) (S:fW N ps scope)
  (len:∀vs H Q E,sp vs H Q E->vs.length=ps.length)
  (hbody:∀(A:Around) (outer:List Env) (s:Shared) (H:Hp) (vs:List V) (Q:VK) (E:XK),gj k (A.deeper (envOfC qual scope s⁻¹ f gg))->sp vs H Q E->
   ∃t,uL (u5 CX P w K mg base N qual scope f gg A outer s H E) body t/\t { nx:=λ_ H'=>Q .non H',rt:=Q} (start N vs) H) :
  qq P w K mg base CX (k+1) f (PySem.W.fnOf name qual params body scope dV kV doc pm an gg ct) ps sp:=by
 refine⟨len,λA outer s H args us vs Q E hr e0 hb r Vd=>?_⟩
 have hl:=len _ _ _ _ Vd;have KX:K.In s.heap:=e0.mod.Zk.keeps λb o e=>(e0.bs b o e).1
 have lim:s.heap.NoLimit:=e0.mod.nolimit.keeps λb o e=>(e0.bs b o e).1
 have hkind:∀y∈ps.zip us,scope.names.lookup y.1=some .local\/(scope.names.lookup y.1=some .cell/\((cellsFrom (s⁻¹+1) scope.names []).lookup y.1).isSome=true):=λ⟨n,v⟩ hy=>by
  rcases S.par n (C3 hy).1 with q |q
  . exact .inl q
  . exact .inr ⟨q,PySem.W.cellsFrom_some _ _ _ (.inl q)⟩
 refine codeAny_call_function hr.depth (KX _ _ lk) rfl S.co S.gen rfl (PySem.W.codeRec_of KX eF) (hb _ _ _ _ ?_);refine wpAny_newFunctionEnv_cells S.kind hkind λenv he s1 x=>?_
 subst he;refine⟨lim.keeps x.toInCall.keep,codeAny_func ?_⟩;obtain⟨t,ht,hq⟩:=hbody A outer s H vs Q E (hr.deeper _) Vd;have I:Inv (u5 CX P w K mg base N qual scope f gg A outer s H E) [] (start N vs) H s1:=Bb S hr.hd e0 hl r x;refine nE (ht [] s1 (start N vs) H _ I hq) (λfl s' hs=>?_) λe s' hs=>hs
 have fin:∀{σ':St}{H':Hp}{v:V}{u:Value},Inv (u5 CX P w K mg base N qual scope f gg A outer s H E) [] σ' H' s'->RelV v u->Q v H'->CE outer P w H s Q u s':=
  λ{σ' H' v u} J rv q=>⟨v,H',J.os,J.bare,J.base,J.hok,rv,q⟩
 cases fl with
 |ret u=>obtain⟨v,σ',H',J,rv,q⟩:=hs;exact fin J rv q
 |next=>obtain⟨σ',H',J,q⟩:=hs;exact fin (v:=V.non) (u:=Value.none) J rfl q
 |brk=>obtain⟨_,_,_,q⟩:=hs;exact False.elim q
 |cont=>obtain⟨_,_,_,q⟩:=hs;exact False.elim q
section
variable{X:Cx}{x:Str}{p pos:Pos}{e:Expr}{es:List Expr}{t:TA}{id T:String}{r:List V->Hp->VK->Prop}
noncomputable def tCB(r:List V->Hp->VK->Prop)(t:TA):TE:=λY H Q=>t Y H λvs H1=>r vs H1 Q
theorem u9(hc:fz X (.builtin id) r)(hg:Gl X x)(hm:X.mg x=none)(hv:bootBuiltins x=some (.builtin id))(ha:PA X (e::es) t)(hn:x≠ "__name__" :=by decide)(Am:(x==(~~~3))=false:=by decide)
  (he:starEach (e::es) X.env=(false,eval e X.env)::starEach es X.env:=by rfl) (mh:(backTo pos (starEach es X.env)).any (·.1)=false:=by rfl):PE X (.Call (.Name x p) (e::es) [] pos) (tCB r t):=by
 intro L s Y H Q I h;refine BM (eL I hg hm hv ?_ hn Am);exact PyProof.Rows.callWith_builtin1 (cz (ha pos L s Y H _ I h) λus s1 ⟨vs,H1,I1,r1,q1⟩=>hc L s1 Y H1 vs us Q I1 r1 q1) he mh
theorem Bc(hc:fz X (.type T) r)(hg:Gl X x)(hm:X.mg x=none)(hv:bootBuiltins x=some (.type T))(ha:PA X (e::es) t)(hn:x≠ "__name__" :=by decide)(Am:(x==(~~~3))=false:=by decide)
  (he:starEach (e::es) X.env=(false,eval e X.env)::starEach es X.env:=by rfl) (mh:(backTo pos (starEach es X.env)).any (·.1)=false:=by rfl):PE X (.Call (.Name x p) (e::es) [] pos) (tCB r t):=by
 intro L s Y H Q I h;refine BM (eL I hg hm hv ?_ hn Am);exact l8 (cz (ha pos L s Y H _ I h) λus s1 ⟨vs,H1,I1,r1,q1⟩=>hc L s1 Y H1 vs us Q I1 r1 q1) he mh
end
end L2
namespace HT
open PySem PyProof.Rows
noncomputable def lexLt: ~~~0->~~~0->Bool
 | [],[]=>false
 | [],_::_=>true
 |_::_,[]=>false
 |x::xs,y::ys=>if x=y then lexLt xs ys else decide (x<y)
theorem dN(x y:Int)(xs ys: ~~~0):lexLt (x::xs) (y::ys)=if x=y then lexLt xs ys else decide (x<y):=rfl
theorem qu:lexLt [] []=false:=rfl
theorem oq(y:Int)(ys: ~~~0):lexLt [] (y::ys)=true:=rfl
theorem ou(x:Int)(xs: ~~~0):lexLt (x::xs) []=false:=rfl
theorem Ep(A:Around)(s:Shared)(a:Int)(t:Tok)(c:Int)(u:Tok):∃e,SeqAt.EqAt A s (.int a t) (.int c u) e/\(e=true ↔ a=c):=
 ⟨(a==c),SeqAt.EqAt.int_int a t c u,by simp⟩
theorem Er(A:Around)(s:Shared)(a:Int)(t:Tok)(c:Int)(u:Tok)(prog:Program)(w:World)(E:Value->Shared->Prop)(Q:Value->Shared->Prop)(h:Q (.bool (decide (a<c))) s) :
  wpAny (model prog w) A (richCompare .Lt (.int a t) (.int c u)) Q E s:=
 (PyProof.Rows.lt_int h:wpAny (model prog w) A (compareOp .Lt (.int a t) (.int c u)) Q E s)
section
open PySem.SeqAt
open PySem.AutoSeq1 (wpAny_loadPart')
open PySem.MeetsSeq PySem.MeetsSeq2 PySem.MeetsSeq3
theorem qw(l b:Addr)(aj items2:Array Value)(n n2:Nat)(dd dd2:Option Addr)(sl sl2:Array (Option Value))(ns ms: ~~~0)(hi:IntsAre aj.toList ns)(hj:IntsAre items2.toList ms) :
  Meets (Builtin.«tuple.__lt__» ⟨[.ref l,.ref b],[]⟩)
   (λ_ R s=>s.heap.get? l=some { cls:=.type "tuple",dict:=dd,data:=.seq aj n,slots:=sl}/\s.heap.get? b=some { cls:=.type "tuple",dict:=dd2,data:=.seq items2 n2,slots:=sl2}/\
    R (.ok (.ret (.bool (lexLt ns ms)))) s):=
 .of_wp λprog w A R s h=>by
  obtain⟨hp,g,d,tk,os⟩:=s;obtain⟨hl,hb,h⟩:=h;have f2:=AutoSeq1.sub_tuple_tuple;have z1:aj.size=ns.length:=by rw[<- hi.length];simp
  have z2:items2.size=ms.length:=by rw[<- hj.length];simp
  wp_walk using wpAny_loadPart' hl,wpAny_loadPart' hb,wpAny_forIn_list _ (λrest b s'=>b.1=none/\s'=⟨hp,g,d,tk,os⟩/\∃(vs ws:List Value) (ns' ms': ~~~0),rest=vs.zip ws/\
   IntsAre vs ns'/\IntsAre ws ms'/\ns'.length+items2.size=ms'.length+aj.size/\R (.ok (.ret (.bool (lexLt ns' ms')))) ⟨hp,g,d,tk,os⟩) _
  case turn=>
   rintro⟨y,x⟩ rest b s' ⟨hb',rfl,vs,ws,ns',ms',hz,hvi,hwi,aL,hR⟩;cases hvi with
   |nil=>rw[List.zip_nil_left]at hz;cases hz
   |cons a t hvi'=>
    cases hwi with
    |nil=>rw[List.zip_nil_right]at hz;cases hz
    |cons c u hwi'=>
     rw[AF]at hz;injection hz with hyx hrest;injection hyx with hy hx;subst hy hx;rw[dN]at hR;simp only[i5]at aL;obtain⟨e,he,hiff⟩:=Ep A.in1 ⟨hp,g,d,tk,os⟩ a t c u;refine aS (he prog w _ _ ?_);cases e with
     |true=>
      rw[fN (hiff.mp rfl)]at hR
      wp_walk
      exact⟨rfl,rfl,_,_,_,_,hrest,hvi',hwi',by lia,hR⟩
     |false=>
      rw[hU (λq=>absurd (hiff.mpr q) i8)]at hR
      have hri:=Er A.in1 ⟨hp,g,d,tk,os⟩ a t c u prog w
      wp_walk using hri
      exact⟨_,rfl,by simpa using hR⟩
  case fin=>
   rintro⟨b1,b2⟩ s' ⟨hb',rfl,vs,ws,ns',ms',hz,hvi,hwi,aL,hR⟩;simp only at hb';subst hb';have hv:lexLt ns' ms'=decide (aj.size<items2.size):=by
    cases hvi with
    |nil=>
     cases hwi with
     |nil=>simp only[AY]at aL;rw[qu];exact (pV ⋯).symm
     |cons c u hw=>simp only[AY,i5]at aL;rw[oq];exact (l7 ⋯).symm
    |cons a t hv=>
     cases hwi with
     |nil=>simp only[AY,i5]at aL;rw[ou];exact (pV ⋯).symm
     |cons c u hw=>rw[AF]at hz;cases hz
   rw[hv]at hR
   wp_walk
   exact⟨_,rfl,by simpa [Builtin.Tuple.tupleCompareSizes]using hR⟩
  case h=>exact⟨rfl,rfl,aj.toList,items2.toList,ns,ms,rfl,hi,hj,by lia,h⟩
end
section
variable{prog:Program}{w:World}{A:Around}{E:Value->Shared->Prop}{s:Shared}
theorem oz(hl:IsTup s.heap l aj)(hb:IsTup s.heap b items2)(hi:IntsAre aj.toList ns)(hj:IntsAre items2.toList ms)
  (hu:A.units<cLine) (h:Q (.bool (lexLt ns ms)) s):wpAny (model prog w) A (compareOp .Lt (.ref l) (.ref b)) Q E s:=by
 obtain⟨⟨cls,dd,data,sl⟩,ho,hc,n,hd⟩:=id hl;obtain⟨⟨Wz,dd2,data2,sl2⟩,ho2,hc2,n2,hd2⟩:=id hb;simp only at hc hd hc2 hd2;subst hc hd hc2 hd2;exact richCompare_meets_room (op:=.Lt) ⟨_,ho,rfl⟩ ⟨_,ho2,rfl⟩ PySem.F.slot_tuple_lt PySem.F.entry_tuple_lt (PySem.F.args_tuple_lt_2 _ _) (qw l b aj items2 n n2 dd dd2 sl sl2 ns ms hi hj)
  ⟨ho,ho2,show Value.bool (lexLt ns ms)≠Value.notImplemented/\Q (.bool (lexLt ns ms)) s from⟨(λx=>nomatch x),h⟩⟩ hu
theorem J9(ht:IsTup s.heap t vs.toArray)(hb:IsTup s.heap b ws.toArray)(hv:vs≠[])
  (h1:ws=[]->Q (.ref t) s) (h2:ws≠[]->Q (.ref s⁻¹) { s with heap:=s.heap.push { cls:=.type "tuple",data:=.seq (vs++ws).toArray}})
  (za:vs.length+ws.length<=sizeLine):wpAny (model prog w) A (binaryOp .Add (.ref t) (.ref b)) Q E s:=by
 obtain⟨⟨cls,dd,data,sl⟩,ho,hc,n,hd⟩:=id ht;obtain⟨⟨Wz,dd2,data2,sl2⟩,ho2,hc2,n2,hd2⟩:=id hb;simp only at hc hd hc2 hd2;subst hc hd hc2 hd2;have e:vs.toArray++ws.toArray=(vs++ws).toArray:=by simp
 by_cases hw:ws=[]
 .
  exact concat_meets ⟨_,ho,rfl⟩ ⟨_,ho2,rfl⟩ noFill_tuple_add seq_tuple_add B3 BN (BF _ _)
   (tuple_addW1 t b vs.toArray ws.toArray n n2 dd dd2 sl sl2 (by simpa using hv) (by simp[hw])) ⟨ho,ho2,h1 hw⟩
 .
  refine concat_meets ⟨_,ho,rfl⟩ ⟨_,ho2,rfl⟩ noFill_tuple_add seq_tuple_add B3 BN (BF _ _)
   (tuple_addW2 t b vs.toArray ws.toArray n n2 dd dd2 sl sl2 (by simpa using hv) (by simpa using hw) (by rw[dC,dC];exact za)) ⟨ho,ho2,?_⟩
  rw[e];exact h2 hw
noncomputable def cG(n d:Nat):Option Int->Nat
 |none=>d
 |some v=>if v<0 then (v+(n:Int)).toNat else min v.toNat n
theorem Qq(n d:Nat)(hd:d<=n)(o:Option Int):cG n d o<=n:=by
 cases o with
 |none=>exact hd
 |some v=>
  show (if v<0 then (v+(n:Int)).toNat else min v.toNat n)<=n
  by_cases hv:v<0
  . rw[fN hv];lia
  . rw[hU hv];exact Nat.min_le_right _ _
theorem zm(v:Int)(n d:Nat):(if v<0 then max (v+(n:Int)) 0 else min v (n:Int))=((cG n d (some v):Nat):Int):=by
 show (if v<0 then max (v+(n:Int)) 0 else min v (n:Int))=(((if v<0 then (v+(n:Int)).toNat else min v.toNat n):Nat):Int)
 by_cases hv:v<0
 . simp only[fN hv];lia
 . simp only[hU hv];lia
theorem xO(lo hi:Option Int)(n:Nat):Builtin.Slice.sliceAdjust lo hi 1 (n:Int)=(((cG n 0 lo:Nat):Int),((cG n n hi:Nat):Int)):=by
 have h1 : ¬ ((1:Int)<0):=by lia
 unfold Builtin.Slice.sliceAdjust;simp only[h1,C9];refine Prod.ext ?_ ?_
 .
  cases lo with
  |none=>rfl
  |some v=>exact zm v n 0
 .
  cases hi with
  |none=>rfl
  |some v=>exact zm v n n
theorem xP(i j:Nat):Builtin.Slice.slicePlaces (i:Int) (j:Int) 1=j - i:=by
 unfold Builtin.Slice.slicePlaces;have h1:(1:Int) > 0:=by lia
 simp only[h1,yA,Int.ediv_one];split <;> lia
theorem jw(p:IsPart v o)(h:Q o s):wpAny (model prog w) A (Builtin.Slice.slicePartIndex v) Q E s:=by
 cases p with
 |none=>exact slicePart_none h
 |int i t=>exact slicePart_int h
theorem gI{sl:Addr}{vl vu:Value}{lo hi:Option Int}{n:Nat}{Q:Int×Int×Nat->Shared->Prop}(hs:s.heap.IsSliceOf sl vl vu .none)(pl:IsPart vl lo)(pu:IsPart vu hi)
  (h:Q (((cG n 0 lo:Nat):Int),1,cG n n hi - cG n 0 lo) s):wpAny (model prog w) A (Builtin.Slice.sliceApplied (.ref sl) (pure (n:Int))) Q E s:=by
 obtain⟨os,hos,hcs,hds⟩:=id hs;unfold Builtin.Slice.sliceApplied Builtin.Slice.sliceFields;refine aS (aS (sB hos hds (x:=vl) rfl (aS (sB hos hds (x:=vu) rfl (aS (sB hos hds (x:=.none) rfl (d5 ?_)))))));refine aS (slicePart_none ?_);show wpAny _ _ (if ((1:Int)==0)=true then _ else _) _ _ s
 rw[hU ⋯];refine aS (jw pl (aS (jw pu (aS (d5 ?_)))));show wpAny _ _ (match Builtin.Slice.sliceAdjust lo hi 1 (n:Int)with | (lo,hi)=>pure (lo,(1:Int),Builtin.Slice.slicePlaces lo hi 1)) _ _ s
 rw[xO lo hi n];show wpAny _ _ (pure (((cG n 0 lo:Nat):Int),(1:Int),Builtin.Slice.slicePlaces ((cG n 0 lo:Nat):Int) ((cG n n hi:Nat):Int) 1)) _ _ s;rw[xP];exact d5 h
theorem Es(xs:Array Value)(i k:Nat):((List.range k).filterMap λ(m:Nat)=>xs[((i:Int)+(m:Int) * 1).toNat]?).toArray=((xs.toList.drop i).take k).toArray:=by
 have e:(λ(m:Nat)=>xs[((i:Int)+(m:Int) * 1).toNat]?)=λm=>xs[i+m]?:=by
  funext m
  have:((i:Int)+(m:Int) * 1).toNat=i+m:=by lia
  rw[this]
 rw[e];have:=pick_run xs i k;rw[List.filterMap_map]at this;have e2:((λx=>xs[x]?) ∘ λx=>i+x)=λm=>xs[i+m]?:=rfl
 rw[e2]at this;rw[this]
theorem jW{t sl:Addr}{aj:Array Value}{vl vu:Value}{lo hi:Option Int}{Q:Value->Shared->Prop}(ht:IsTup s.heap t aj)(hs:s.heap.IsSliceOf sl vl vu .none)(pl:IsPart vl lo)(pu:IsPart vu hi)
  (hw : ¬ (cG aj.size 0 lo=0/\cG aj.size aj.size hi=aj.size))
  (h:Q (.ref s⁻¹) { s with heap:=s.heap.push { cls:=.type "tuple",data:=.seq ((aj.toList.drop (cG aj.size 0 lo)).take (cG aj.size aj.size hi - cG aj.size 0 lo)).toArray}})
  (za:aj.size<=sizeLine):wpAny (model prog w) A (getItem (.ref t) (.ref sl)) Q E s:=by
 have jX:sizeOk (.seq ((aj.toList.drop (cG aj.size 0 lo)).take (cG aj.size aj.size hi - cG aj.size 0 lo)).toArray):=by show ((aj.toList.drop (cG aj.size 0 lo)).take (cG aj.size aj.size hi - cG aj.size 0 lo)).toArray.size<=sizeLine;rw[dC,u8,List.length_drop,oD];lia
 have hj:cG aj.size aj.size hi<=aj.size:=Qq _ _ (eD _) hi;obtain⟨os,hos,hcs,hds⟩:=id hs;have WD:s.TypeIs (.ref sl) "slice" :=⟨os,hos,hcs⟩;unfold getItem
 try with_reducible refine lL ?_
 first |refine aS (d5 ?_) |skip
 refine aS (wpAny_sequenceKey ht.typeIs ⋯ ?_);refine aS (sR (name:=Str.ofString "__getitem__") ht.typeIs oC
  (vS oC ht.typeIs entry_tuple_getitem ?_ (args_tuple_getitem _ _)))
 show wpAny _ _ (Builtin.Tuple.tupleItemsOf (.ref t) >>= _) _ _ s;refine aS (tupleItemsOf_ ht ?_);refine aS (Co WD ?_);rw[fN ⋯];refine aS (gI hs pl pu ?_);have hno : ¬ ((((cG aj.size 0 lo:Nat):Int)==0&&(1:Int)==1&&(cG aj.size aj.size hi - cG aj.size 0 lo)==aj.size)=true):=by intro q;rw[dE,dE]at q;have q1:((cG aj.size 0 lo:Nat):Int)=0:=eq_of_beq q.1.1;have q2:cG aj.size aj.size hi - cG aj.size 0 lo=aj.size:=eq_of_beq q.2;exact hw ⟨by lia,by lia⟩
 show wpAny _ _ (if (((cG aj.size 0 lo:Nat):Int)==0&&(1:Int)==1&&(cG aj.size aj.size hi - cG aj.size 0 lo)==aj.size)=true then _ else _) _ _ s
 rw[hU hno,Es]
 first
  |exact aS (m:=Builtin.Tuple.tupleExact _) (nK (d5 ⟨_,rfl,d5 h⟩) jX)
  |exact aS (m:=Builtin.Tuple.tupleExact _) (nK (aS (d5 (d5 ⟨_,rfl,d5 h⟩))) jX)
  |exact aS (aS (m:=Builtin.Tuple.tupleExact _) (nK (d5 (d5 ⟨_,rfl,d5 h⟩)) jX))
  |exact aS (aS (m:=Builtin.Tuple.tupleExact _) (nK (d5 ⟨_,rfl,d5 h⟩) jX))
end
end HT
namespace L2
abbrev TO:=St->Hp->(Option Int->Hp->Prop)->Prop
def PO(X:Cx)(e:Option Expr)(t:TO):Prop:=
 ∀(L: ~~~1) (s:Shared) (Y:St) (H:Hp) (Q:Option Int->Hp->Prop),Inv X L Y H s->t Y H Q->
  wpAny (~~~2) X.A (evalPart e X.env) (λu s'=>∃o H',Inv X L Y H' s'/\IsPart u o/\Q o H') X.xe s
def Ka:TO:=λ_ H Q=>Q none H
def WK(t:TE):TO:=λY H Q=>t Y H λx H1=>∃i,x=.int i/\Q (some i) H1
theorem intsAre_of:∀{us:List Value},Vals (ns.map V.int) us->IntsAre us ns:=by
 induction ns with
 |nil=>intro us r;rw[List.map_nil]at r;cases r;exact .nil
 |cons n ns ih=>
  intro us r;rw[List.map_cons]at r;cases r with
  |cons r1 r2=>obtain⟨t,e⟩:=r1;subst e;exact .cons n t (ih r2)
section
variable{X:Cx}{e:Expr}{te:TE}{lo hi:Option Expr}{tl th:TO}{pos p2:Pos}
theorem Kc:PO X none Ka:=by intro L s Y H Q I h;rw[evalPart_none];exact d5 ⟨none,H,I,.none,h⟩
theorem Ke(h:PE X e te):PO X (some e) (WK te):=by
 intro L s Y H Q I hw;rw[evalPart_some];refine cz (h L s Y H _ I hw) λu s1 ⟨x,H1,I1,r1,q1⟩=>?_
 obtain⟨i,rfl,q⟩:=q1;obtain⟨t,rfl⟩:=r1;exact⟨some i,H1,I1,.int i t,q⟩
def Zu(X:Cx)(r:V->Option Int->Option Int->Hp->VK->Prop):Prop:=
 ∀(L: ~~~1) (s:Shared) (Y:St) (H:Hp) (x:V) (v vl vu:Value) (lo hi:Option Int) (sl:Addr) (Q:VK),Inv X L Y H s->RelV x v->s.heap.IsSliceOf sl vl vu .none->IsPart vl lo->IsPart vu hi->r x lo hi H Q->
  ∃T id,typeLookup (.type T) "__getitem__"=pure (some (.builtin id))/\s.TypeIs v T/\wpAny (~~~2) X.A (getItem v (.ref sl)) (EP X L Y Q) X.xe s
noncomputable def tSl(r:V->Option Int->Option Int->Hp->VK->Prop)(te:TE)(tl th:TO):TE:=λY H Q=>te Y H λx H1=>tl Y H1 λl H2=>th Y H2 λu H3=>r x l u H3 Q
theorem oA{r:V->Option Int->Option Int->Hp->VK->Prop}(hr:Zu X r)(he:PE X e te)(hl:PO X lo tl)(hu:PO X hi th):PE X (.Subscript e (.Slice lo hi none p2) pos) (tSl r te tl th):=by
 intro L s Y H Q I h;refine Subscript_ (cz (he L s Y H _ I h) λv s1 ⟨x,H1,I1,r1,q1⟩=>?_)
 refine wpAny_Slice (cz (hl L s1 Y H1 _ I1 q1) λvl s2 ⟨l,H2,I2,pl,q2⟩=>cz (hu L s2 Y H2 _ I2 q2) λvu s3 ⟨u,H3,I3,pu,q3⟩=>?_)
 rw[evalPart_none];refine d5 ?_;have I4:Inv X L Y H3 { s3 with heap:=s3.heap.push { cls:=.type "slice",data:=.fields #[vl,vu,.none]}}:=I3.kept (t':=s3.toks) λb ob q=>b0 _ q
 obtain⟨T,id,hT,ht,hg⟩:=hr L { s3 with heap:=s3.heap.push { cls:=.type "slice",data:=.fields #[vl,vu,.none]}} Y H3 x v vl vu l u s3⁻¹ Q I4 r1 (Heap.IsSliceOf.new ..) pl pu q3;show wpAny (~~~2) X.A (subscriptTail e (.Slice lo hi none p2) v (.ref s3⁻¹)) (EP X L Y Q) X.xe { s3 with heap:=s3.heap.push { cls:=.type "slice",data:=.fields #[vl,vu,.none]}};exact tail_any (ops:=[.ref s3⁻¹,v]) ht hT hg (by with_unfolding_all rfl)
def sL(xs:List V)(lo hi:Option Int):List V:=(xs.drop (HT.cG xs.length 0 lo)).take (HT.cG xs.length xs.length hi - HT.cG xs.length 0 lo)
theorem mz(xs:List V)(lo hi:Option Int):(sL xs lo hi).length<=xs.length:=by unfold sL;rw[u8,List.length_drop];lia
def rSlT(K:Frag):V->Option Int->Option Int->Hp->VK->Prop:=λx lo hi H Q=>∃a xs,x=.ref a/\fV K H a xs/\
 ¬ (HT.cG xs.length 0 lo=0/\HT.cG xs.length xs.length hi=xs.length)/\∀p,H p=none->Q (.ref p) (upd H p (.tup (sL xs lo hi)))
theorem Qs:Zu X (rSlT X.K):=by
 intro L s Y H x v vl vu lo hi sl Q I rx hs pl pu h;obtain⟨a,xs,rfl,hx,hw,q⟩:=h;cases rx;obtain⟨its,r,ht,hz⟩:=I.tuple hx;have aL:its.toArray.size=xs.length:=by rw[dC];exact r.length.symm
 refine⟨"tuple",_,PyProof.Rows.slot_tuple_getitem.lookup,ht.typeIs,?_⟩;refine HT.jW ht hs pl pu (by rw[aL];exact hw) ?_ (by rw[aL];exact hz)
 rw[aL];refine⟨.ref s⁻¹,_,I.laid (t':=s.toks) (o:=.tup (sL xs lo hi)) (λb ob q=>b0 _ q) (eD _) ?_,rfl,q _ (I.hok.fresh (eD _))⟩
 exact⟨kA (mz xs lo hi) hz,_,(r.drop (HT.cG xs.length 0 lo)).take (HT.cG xs.length xs.length hi - HT.cG xs.length 0 lo),gi.new _ _⟩
def rLtT(K:Frag):R2:=λx y H Q=>∃a b ns ms,x=.ref a/\y=.ref b/\fV K H a (ns.map V.int)/\fV K H b (ms.map V.int)/\Q (.bl (HT.lexLt ns ms)) H
theorem Qt(hu:X.A.units<cLine):kN X (compareOp .Lt) (rLtT X.K):=by intro L s Y H x y v u Q I rx ry h;obtain⟨a,b,ns,ms,rfl,rfl,ha,hb,q⟩:=h;cases rx;cases ry;obtain⟨its,r1,p1,_⟩:=I.tuple ha;obtain⟨g8,r2,p2,_⟩:=I.tuple hb;have i1:IntsAre its.toArray.toList ns:=intsAre_of r1;have i2:IntsAre g8.toArray.toList ms:=intsAre_of r2;exact HT.oz p1 p2 i1 i2 hu ⟨.bl (HT.lexLt ns ms),H,I,rfl,q⟩
def WL(K:Frag):R2:=λx y H Q=>∃a b xs ys,x=.ref a/\y=.ref b/\fV K H a xs/\fV K H b ys/\xs≠[]/\xs.length+ys.length<=sizeLine/\
 (ys=[]->Q (.ref a) H)/\(ys≠[]->∀p,H p=none->Q (.ref p) (upd H p (.tup (xs++ys))))
theorem Vals.sM(r:Vals xs us):us=[] ↔ xs=[]:=by
 cases r with
 |nil=>simp
 |cons _ _=>simp
theorem Kf:kN X (binaryOp .Add) (WL X.K):=by
 intro L s Y H x y v u Q I rx ry h;obtain⟨a,b,xs,ys,rfl,rfl,ha,hb,hx,hz,q1,q2⟩:=h;cases rx;cases ry;obtain⟨its,r1,p1,_⟩:=I.tuple ha;obtain⟨g8,r2,p2,_⟩:=I.tuple hb;refine HT.J9 p1 p2 (λz=>hx (r1.sM.mp z)) (λz=>⟨.ref a,H,I,rfl,q1 (r2.sM.mp z)⟩) (λz=>?_) (by rw[<- r1.length,<- r2.length];exact hz)
 refine⟨.ref s⁻¹,_,I.laid (t':=s.toks) (o:=.tup (xs++ys)) (λb ob q=>b0 _ q) (eD _) ?_,rfl,q2 (λw=>z (r2.sM.mpr w)) _ (I.hok.fresh (eD _))⟩
 exact⟨by rw[eC];exact hz,_,r1.append r2,gi.new _ _⟩
end
noncomputable def nk(n:Nat)(i:Int):Option Nat:=if 0<=i then (if i<n then some i.toNat else none)else if -(n:Int)<=i then some (i+n).toNat else none
def eU{α:Type}(xs:List α)(i:Int):Option α:=(nk xs.length i).bind λj=>xs[j]?
theorem sO(h:nk n i=some j):seqIndex? i n=some j/\j<n/\-(n:Int)<=i/\i<n:=by
 unfold nk at h;by_cases h0:0<=i
 .
  rw[fN h0]at h;by_cases h1:i<n
  . rw[fN h1]at h;have e:i.toNat=j:=rV h;exact⟨by rw[seqIndex_of h0 h1,e],by lia,by lia,h1⟩
  . rw[hU h1]at h;symm
 .
  rw[hU h0]at h;by_cases h1 : -(n:Int)<=i
  . rw[fN h1]at h;have e:(i+n).toNat=j:=rV h;exact⟨by rw[seqIndex_neg ⋯ h1,e],by lia,h1,by lia⟩
  . rw[hU h1]at h;symm
theorem zo{α:Type}{xs:List α}{i:Int}{v:α}(h:eU xs i=some v):∃j,seqIndex? i xs.length=some j/\xs[j]?=some v/\j<xs.length/\-(xs.length:Int)<=i/\i<xs.length:=by
 unfold eU at h;cases e:nk xs.length i with
 |none=>rw[e]at h;symm
 |some j=>rw[e]at h;obtain⟨h1,h2,h3,h4⟩:=sO e;exact⟨j,h1,h,h2,h3,h4⟩
def sP(b:Expr):Prop:=∀o i,subscripted b false o i=operate [o,i] (getItem o i)
def WM(X:Cx)(r:R2):Prop:=
 ∀(value slice:Expr) (L: ~~~1) (s:Shared) (Y:St) (H:Hp) (x y:V) (v u:Value) (Q:VK),Inv X L Y H s->RelV x v->RelV y u->r x y H Q->
  subscripted slice false v u=operate [v,u] (getItem v u)->wpAny (~~~2) X.A (subscriptTail value slice v u) (EP X L Y Q) X.xe s
def MtR(X:Cx)(id:String)(r:V->List V->Hp->VK->Prop):Prop:=
 ∀(L: ~~~1) (s:Shared) (Y:St) (H:Hp) (x:V) (xs:List V) (v:Value) (us:List Value) (Q:VK),Inv X L Y H s->RelV x v->Vals xs us->r x xs H Q->
  wpAny (~~~2) X.A (call (.builtin id) (v::us)) (EP X L Y Q) X.xe s
section
variable{X:Cx}{a b:Expr}{ta tb:TE}{pos:Pos}
theorem Oe{r:R2}(hr:WM X r)(ha:PE X a ta)(hb:PE X b tb)(hs:sP b):PE X (.Subscript a b pos) (Zt r ta tb):=by intro L s Y H Q I h;exact Subscript_ (Qh ha hb I h λv u s2 x y H2 I2 rx ry q=>hr a b L s2 Y H2 x y v u Q I2 rx ry q (hs _ _))
def rIxL(K:Frag):R2:=λx y H Q=>∃p xs i v,x=.ref p/\y=.int i/\cB K H p xs/\eU xs i=some v/\Q v H
def rIxT(K:Frag):R2:=λx y H Q=>∃p xs i v,x=.ref p/\y=.int i/\fV K H p xs/\eU xs i=some v/\Q v H
theorem sQ:WM X (rIxL X.K):=by
 intro value slice L s Y H x y v u Q I rx ry h hs;obtain⟨p,xs,i,z,rfl,rfl,hq,he,q⟩:=h;cases rx;obtain⟨t,rfl⟩:=ry;obtain⟨its,r,pl,hz⟩:=I.list hq;obtain⟨j,h1,h2,h3,h4,h5⟩:=zo he;obtain⟨w,ew,rw'⟩:=r.get h2;have hl:=r.length;have hn:=n9;have fin:EP X L Y Q w s:=⟨z,H,I,rw',q⟩;by_cases h0:0<=i
 .
  have hj:i.toNat=j:=by rw[seqIndex_of h0 h5]at h1;exact rV h1
  exact item_listR pl.isList h0 ⋯ (by rw[hj];simpa using ew) fin hs
 .
  have hj:(i+(its.toArray.size:Int)).toNat=j:=by rw[seqIndex_neg ⋯ h4]at h1;rw[dC,<- hl];exact rV h1
  exact subscriptTail_builtinR (x:=w) pl.isList.typeIs slot_list_getitem.lookup
   (wpAny_getItem_list_neg (Q:=λr s'=>r=w/\EP X L Y Q r s') pl.isList ⋯ (by rw[dC] <;> lia) ⋯ (by rw[hj];simpa using ew) ⟨rfl,fin⟩) hs
theorem Qu:WM X (rIxT X.K):=by
 intro value slice L s Y H x y v u Q I rx ry h hs;obtain⟨p,xs,i,z,rfl,rfl,hq,he,q⟩:=h;cases rx;obtain⟨t,rfl⟩:=ry;obtain⟨its,r,pl,hz⟩:=I.tuple hq;obtain⟨j,h1,h2,h3,h4,h5⟩:=zo he;obtain⟨w,ew,rw'⟩:=r.get h2;have hl:=r.length;have hn:=n9;have fin:EP X L Y Q w s:=⟨z,H,I,rw',q⟩;exact subscriptTail_builtinR (x:=w) pl.typeIs slot_tuple_getitem.lookup
  (getItem_tuple (j:=j) (Q:=λr s'=>r=w/\EP X L Y Q r s') pl ⋯ ⋯ (by rw[dC,<- hl];exact h1) (by simpa using ew) ⟨rfl,fin⟩) hs
theorem xQ(its:List Value)(n j:Nat)(u:Value):Obj.mapSeq (·.setIfInBounds j u) { cls:=.type "list",data:=.seq its.toArray n}={ cls:=.type "list",data:=.seq (its.set j u).toArray n}:=by simp[Obj.mapSeq]
theorem Inv.lst{L: ~~~1}{Y:St}{H:Hp}{s:Shared}{p:Addr}{xs:List V}(I: ~~~7)(h:H p=some (.lst xs)) :
  ∃(its:List Value) (n:Nat),Vals xs its/\s.heap.get? p=some { cls:=.type "list",data:=.seq its.toArray n}/\xs.length<=sizeLine:=by
 obtain⟨z,its,n,r,e⟩:=I.hok p _ h;exact⟨its,n,r,e,z⟩
theorem Inv.Qv{L: ~~~1}{Y:St}{H:Hp}{s:Shared}{p:Addr}{xs ys:List V}{its its':List Value}{n n':Nat}{f:Obj->Obj}(I: ~~~7)(h:H p=some (.lst xs))
  (ho:s.heap.get? p=some { cls:=.type "list",data:=.seq its.toArray n}) (hf:f { cls:=.type "list",data:=.seq its.toArray n}={ cls:=.type "list",data:=.seq its'.toArray n'}) (r:Vals ys its') (hz:ys.length<=sizeLine) (t:Nat) :
  Inv X L Y (upd H p (.lst ys)) { s with heap:=s.heap.update p f,toks:=t}:=by
 have e:(s.heap.update p f).get? p=some { cls:=.type "list",data:=.seq its'.toArray n'}:=by rw[wT f ho (by rw[hf] <;> rfl),hf]
 refine I.write (x:=p) (e:=p) (by rw[h];trivial) (.inl rfl) (λb u hb q=>(lS _ _ (oQ hb)).trans q) ⟨_,e⟩ ?_
 exact⟨hz,its',n',r,e⟩
def WN:V->V->V->Hp->(Hp->Prop)->Prop:=λo i v H Q=>∃p xs k j,o=.ref p/\i=.int k/\H p=some (.lst xs)/\nk xs.length k=some j/\Q (upd H p (.lst (xs.set j v)))
theorem set_list:Wa X WN:=by
 intro L s Y H o i v ov iv u Q I ro ri rv h;obtain⟨p,xs,k,j,rfl,rfl,hp,hj,q⟩:=h;cases ro;obtain⟨t,rfl⟩:=ri;obtain⟨its,n,r,ho,hz⟩:=I.lst hp;obtain⟨h1,h2,h3,h4⟩:=sO hj;have hl:=r.length;have hn:=n9;have I':Inv X L Y (upd H p (.lst (xs.set j v))) { s with heap:=s.heap.update p (Obj.mapSeq (·.setIfInBounds j u))}:=
  I.Qv hp ho (xQ its n j u) (r.set rv j) (by rw[xI];exact hz) s.toks
 by_cases h0:0<=k
 .
  have hk:k.toNat=j:=by rw[seqIndex_of h0 h4]at h1;exact rV h1
  exact PySem.W.ki_setAt ho h0 ⋯ (by rw[dC,<- hl];exact h4) (by rw[hk];exact⟨_,I',q⟩)
 .
  have hk:(k+(its.toArray.size:Int)).toNat=j:=by rw[seqIndex_neg ⋯ h3]at h1;rw[dC,<- hl];exact rV h1
  exact PySem.W.ki_setBack ho ⋯ (by rw[dC,<- hl];exact h3) ⋯ (by rw[hk];exact⟨_,I',q⟩)
theorem sS(lo hi:Option Int)(n:Nat):(sliceBounds lo hi none n).1=((HT.cG n 0 lo:Nat):Int)/\(sliceBounds lo hi none n).2.1=((HT.cG n n hi:Nat):Int)/\(sliceBounds lo hi none n).2.2=1:=by
 refine⟨?_,?_,rfl⟩
 .
  cases lo with
  |none=>simp[sliceBounds,HT.cG]
  |some i=>
   simp only[sliceBounds,HT.cG,Option.getD_none,show (1:Int) > 0 by decide,yA]
   by_cases h:i<0
   . simp only[h,yA] <;> lia
   . simp only[h,C9] <;> lia
 .
  cases hi with
  |none=>simp[sliceBounds,HT.cG]
  |some i=>
   simp only[sliceBounds,HT.cG,Option.getD_none,show (1:Int) > 0 by decide,yA]
   by_cases h:i<0
   . simp only[h,yA] <;> lia
   . simp only[h,C9] <;> lia
theorem qz(its:List Value)(lo hi:Option Int):slicePick its.toArray lo hi none=((its.drop (HT.cG its.length 0 lo)).take (HT.cG its.length its.length hi - HT.cG its.length 0 lo)).toArray:=by obtain⟨h1,h2,h3⟩:=sS lo hi its.toArray.size;unfold slicePick;rw[h1,h2,h3];simp only[sliceRange_one,pick_run,dC] <;> rfl
def rSlL(K:Frag):V->Option Int->Option Int->Hp->VK->Prop:=λx lo hi H Q=>∃a xs,x=.ref a/\cB K H a xs/\∀p,H p=none->Q (.ref p) (upd H p (.lst (sL xs lo hi)))
theorem zp:Zu X (rSlL X.K):=by
 intro L s Y H x v vl vu lo hi sl Q I rx hs pl pu h;obtain⟨a,xs,rfl,hx,q⟩:=h;cases rx;obtain⟨its,r,ht,hz⟩:=I.list hx;have aL:=r.length;refine⟨"list",_,slot_list_getitem.lookup,ht.isList.typeIs,?_⟩;refine wpAny_getItem_list_slice ht.isList hs pl pu .none ⋯ ?_ (by rw[dC] <;> lia)
 rw[qz,<- aL];refine⟨.ref s⁻¹,_,I.laid (t':=s.toks) (o:=.lst (sL xs lo hi)) (λb ob q=>b0 _ q) (eD _) ?_,rfl,q _ (I.hok.fresh (eD _))⟩
 exact⟨kA (mz xs lo hi) hz,_,0,(r.drop (HT.cG xs.length 0 lo)).take (HT.cG xs.length xs.length hi - HT.cG xs.length 0 lo),eJ _ rfl⟩
theorem sU:fz X (.type "list") (λxs H Q=>∃p ys,xs=[.ref p]/\(cB X.K H p ys\/fV X.K H p ys)/\∀l,H l=none->Q (.ref l) (upd H l (.lst ys))):=by
 intro L s Y H xs us Q I r h;obtain⟨p,ys,rfl,hq,q⟩:=h;obtain⟨u,rfl,rx⟩:=vals1 r;cases rx;have fin:∀(its:List Value),Vals ys its->ys.length<=sizeLine->∀(h':Heap) (c':Nat),(∀b o',s.heap.get? b=some o'->h'.get? b=some o')->
   h'.get? s⁻¹=some { cls:=.type "list",dict:=none,data:=.seq its.toArray c',slots:=#[]}->EP X L Y Q (.ref s⁻¹) { s with heap:=h'}:=λits r' hz h' c' kp e=>
  ⟨.ref s⁻¹,_,I.laid (t':=s.toks) kp (eD _) (show d9 X.prog X.w _ h' _ (.lst ys)from⟨hz,its,c',r',e⟩),rfl,q _ (I.hok.fresh (eD _))⟩
 rcases hq with hq |hq
 . obtain⟨its,r',pl,hz⟩:=I.list hq;have aL:=r'.length;obtain⟨o,ho,hc,n,hd⟩:=pl.isList;exact call_list_seq p (.inl rfl) ho hc hd (λh' c' kp e=>fin its r' hz h' c' kp e) (by simp only[dC] <;> lia)
 . obtain⟨its,r',pl,hz⟩:=I.tuple hq;have aL:=r'.length;obtain⟨o,ho,hc,n,hd⟩:=pl;exact call_list_seq p (.inr rfl) ho hc hd (λh' c' kp e=>fin its r' hz h' c' kp e) (by simp only[dC] <;> lia)
theorem qC:fz X (.type "tuple") (λxs H Q=>∃p ys,xs=[.ref p]/\((cB X.K H p ys/\∀l,H l=none->Q (.ref l) (upd H l (.tup ys)))\/(fV X.K H p ys/\Q (.ref p) H))):=by
 intro L s Y H xs us Q I r h;obtain⟨p,ys,rfl,h⟩:=h;obtain⟨u,rfl,rx⟩:=vals1 r;cases rx;rcases h with ⟨hq,q⟩ |⟨hq,q⟩
 .
  obtain⟨its,r',pl,hz⟩:=I.list hq;have aL:=r'.length;refine call_tuple_list pl.isList (λh' kp=>?_) (by simp only[dC] <;> lia)
  have I1:Inv X L Y H { s with heap:=h'}:=I.kept (t':=s.toks) kp;have I2:Inv X L Y (upd H h'.objs.size (.tup ys)) { s with heap:=h'.push { cls:=.type "tuple",data:=.seq its.toArray}}:=
   I1.laid (t':=s.toks) (λb o e=>b0 _ e) (eD _) (show d9 X.prog X.w _ _ _ (.tup ys)from⟨hz,its,r',gi.new _ _⟩)
  exact⟨.ref h'.objs.size,_,I2,rfl,q _ (I1.hok.fresh (eD _))⟩
 . obtain⟨its,r',pl,hz⟩:=I.tuple hq;exact call_tuple_same pl ⟨.ref p,H,I,rfl,q⟩
def tyV(K:Frag)(T:String)(x:V)(H:Hp):Prop:=match x with
 |.str _=>T = "str"
 |.int _=>T = "int"
 |.ref p=>(T = "list" /\∃xs,cB K H p xs)\/(T = "tuple" /\∃o,K.lookup p=some o/\o.cls=.type "tuple" /\o.dict=none)\/
   (T = "dict" /\((∃eH,H p=some (.dK eH))\/∃eH,H p=some (.dT eH)))\/(T = "set" /\∃S n,H p=some (.set S n))
 |_=>False
theorem Qw{L: ~~~1}{Y:St}{H:Hp}{s:Shared}{T:String}{x:V}{v:Value}(I: ~~~7)(r:RelV x v)(ty:tyV X.K T x H) :
  s.TypeIs v T/\∀a,v=.ref a->∃ob,s.heap.get? a=some ob/\ob.dict=none:=by
 cases x with
 |str z=>
  obtain⟨t,rfl⟩:=r;cases (show T = "str" from ty)
  exact⟨typeIs_str s z t,λ_ e=>nomatch e⟩
 |int i=>
  obtain⟨t,rfl⟩:=r;cases (show T = "int" from ty)
  exact⟨typeIs_int s i t,λ_ e=>nomatch e⟩
 |ref p=>
  cases r;rcases ty with ⟨rfl,xs,hq⟩ |⟨rfl,o,hk,hc,hd⟩ |⟨rfl,hk⟩ |⟨rfl,S,n,hk⟩
  .
   obtain⟨its,_,pl,_⟩:=I.list hq;refine⟨pl.isList.typeIs,λa e=>?_⟩
   cases e;obtain⟨o,n,e,c,hd,_⟩:=pl;exact⟨o,e,hd⟩
  .
   refine⟨⟨o,I.uT p o hk,hc⟩,λa e=>?_⟩
   cases e;exact⟨o,I.uT _ o hk,hd⟩
  .
   have z:∃o,s.heap.get? p=some o/\o.ExactDict:=by
    rcases hk with ⟨eH,hk⟩ |⟨eH,hk⟩
    . obtain⟨_,_,_,_,o,_,_,e,ex,_⟩:=I.hok p _ hk;exact⟨o,e,ex⟩
    . obtain⟨_,_,_,_,o,_,_,e,ex,_⟩:=I.hok p _ hk;exact⟨o,e,ex⟩
   obtain⟨o,e,ex⟩:=z;refine⟨⟨o,e,ex.1⟩,λa e2=>?_⟩
   cases e2;exact⟨o,e,ex.2.1⟩
  .
   obtain⟨o,_,_,_,e,ex,_⟩:=I.hok p _ hk;refine⟨⟨o,e,ex.1⟩,λa e2=>?_⟩
   cases e2;exact⟨o,e,ex.2.1⟩
 |_=>exact False.elim ty
def tBM(K:Frag)(T:String)(r:V->List V->Hp->VK->Prop)(to:TE)(t:TA):TE:=λY H Q=>to Y H λx H1=>tyV K T x H1/\t Y H1 λxs H2=>r x xs H2 Q
variable{o e:Expr}{es:List Expr}{to:TE}{t:TA}{name:Str}{dY bQ:Pos}{T id:String}{r:V->List V->Hp->VK->Prop}
theorem zq(pa:PlainAttrs T)(slot:Slot T name id)(hty:typeOf (.builtin id)=pure (.type "method_descriptor"))(hm:MtR X id r)(ho:PE X o to)(ha:PA X (e::es) t)
  (hbase:attributeBase o name X.env (eval o X.env)=eval o X.env:=by rfl)
  (hfew:((backTo bQ (starEach (e::es) X.env)).all (λx=>!x.1)&&(backToKw bQ (keywordEach [] X.env)).all (λx=>x.1.isSome)
   && decide ((e::es).length+([]:List Keyword).length+(if ([]:List Keyword).isEmpty then 0 else 1)<30))=true:=by rfl)
  (hline:(dY.endLine==bQ.line)=true:=by rfl) (hs:starEach (e::es) X.env=(false,eval e X.env)::starEach es X.env:=by rfl) (hplain:(backTo bQ (starEach es X.env)).any (·.1)=false:=by rfl) :
  PE X (.Call (.Attribute o name dY) (e::es) [] bQ) (tBM X.K T r to t):=by
 intro L s Y H Q I h;refine wpAny_Call_method_late hbase hfew hline rfl (cz (ho L s Y H _ I h) λv s1 ⟨x,H1,I1,r1,ty,q1⟩=>?_)
 obtain⟨h1,h2⟩:=Qw I1 r1 ty;refine⟨T,id,pa,slot,hty,h1,h2,?_⟩;have hA:=ha bQ L s1 Y H1 _ I1 q1;rw[hs]at hA ⊢
 refine Calls.callWith_builtin (by show (false||(backTo bQ (starEach es X.env)).any (·.1))=false;rw[hplain] <;> rfl) (Calls.evalArgs_plain ?_)
 exact cz hA λus s2 ⟨vs,H2,I2,r2,q2⟩=>hm L s2 Y H2 x vs v us Q I2 r1 r2 q2
/- xs.append(e),list.index on a module's tuple .. are MtR facts of 06m -/
end
def MtM(X:Cx)(id:String)(r:V->List V->Hp->VK->Prop):Prop:=
 ∀(L: ~~~1) (s:Shared) (Y:St) (H:Hp) (x:V) (xs:List V) (v:Value) (us:List Value) (Q:VK),Inv X L Y H s->RelV x v->Vals xs us->r x xs H Q->
  wpAny (~~~2) X.A (call (.builtin id) (v::us)) (EP X L Y Q) X.xe s
theorem Vals.one:∀{x:V}{us:List Value},Vals [x] us->∃u,us=[u]/\RelV x u
 |_,_,.cons r .nil=>⟨_,rfl,r⟩
theorem Vals.eraseIdx:∀{xs:List V}{us:List Value} (i:Nat),Vals xs us->Vals (xs.eraseIdx i) (us.eraseIdx i)
 |_,_,_,.nil=>.nil
 |_,_,0,.cons _ t=>t
 |_,_,i+1,.cons r t=>.cons r (Vals.eraseIdx i t)
theorem Vals.reverse{xs:List V}{us:List Value}(h:Vals xs us):Vals xs.reverse us.reverse:=by
 induction h with
 |nil=>exact .nil
 |cons r t ih=>rw[B7,B7];exact Vals.append ih (.cons r .nil)
theorem Vals.rep(h:Vals xs us):∀k:Nat,Vals (List.replicate k xs).flatten (List.replicate k us).flatten
 | 0=>.nil
 |k+1=>by
  rw[oI,oI,tP,tP];exact Vals.append h (Vals.rep h k)
theorem qY{α:Type}:∀(l:List α) (i:Nat),(l.eraseIdx i).length<=l.length
 | [],_=>eD _
 |_::_,0=>AO _
 |_::r,i+1=>Nat.succ_le_succ (qY r i)
theorem foldl_rep(its:List Value):∀(k:Nat) (acc:List Value),
  List.foldl (λx1 x2=>x1++x2) acc.toArray (List.replicate k its.toArray)=(acc++(List.replicate k its).flatten).toArray
 | 0,acc=>by simp
 |k+1,acc=>by
  have e:acc.toArray++its.toArray=(acc++its).toArray:=by simp
  have e2:(acc++its)++(List.replicate k its).flatten=acc++(List.replicate (k+1) its).flatten:=by rw[oI,tP,wE]
  rw[<- e2,<- foldl_rep its k (acc++its),<- e,oI,List.foldl_cons]
section
variable{X:Cx}{L: ~~~1}{Y:St}{H:Hp}{s:Shared}{l b:Addr}{xs ys zs:List V}
theorem Inv.Kg{its its':List Value}{n:Nat}{f:Array Value->Array Value}{t':Nat}(I: ~~~7)(hH:H l=some (.lst xs))
  (e:s.heap.get? l=some { cls:=.type "list",data:=.seq its.toArray n}) (hf:f its.toArray=its'.toArray) (hv:Vals ys its') (hz:ys.length<=sizeLine) :
  Inv X L Y (upd H l (.lst ys)) { s with heap:=s.heap.update l (Obj.mapSeq f),toks:=t'}:=by
 have q:=PySem.IsL.update e f;rw[hf]at q;refine I.write (x:=l) (e:=l) (by rw[hH];exact trivial) (.inl rfl) (λb' u hb hu=>(lS s.heap (Obj.mapSeq f) (oQ hb)).trans hu) ⟨_,q⟩ ?_
 exact⟨hz,its',_,hv,q⟩
theorem Inv.WQ(I: ~~~7)(hv:Vals ys its)(hz:ys.length<=sizeLine) :
  Inv X L Y (upd H s⁻¹ (.lst ys)) { s with heap:=s.heap.push { cls:=.type "list",data:=.seq its.toArray},toks:=t'}:=
 I.laid (λ_ _ q=>b0 _ q) (eD _) ⟨hz,its,0,hv,eJ _ rfl⟩
theorem Inv.fresh(I: ~~~7):H s⁻¹=none:=I.hok.fresh (eD _)
theorem Inv.sV(I: ~~~7)(hH:H l=some (.lst xs)):xs.length<=sizeLine/\∃(its:List Value) (n:Nat),Vals xs its/\xs.length=its.length/\s.heap.get? l=some { cls:=.type "list",data:=.seq its.toArray n}:=by obtain⟨z,its,n,r,e⟩:=I.hok l _ hH;exact⟨z,its,n,r,r.length,e⟩
theorem oB(h:n<=sizeLine):Builtin.List.listTooLong n=false:=by unfold Builtin.List.listTooLong;exact pV ⋯
end
section
variable{X:Cx}
def Kh:V->List V->Hp->VK->Prop:=λx vs H Q=>∃l xs y,x=.ref l/\vs=[y]/\H l=some (.lst xs)/\xs.length<sizeLine/\Q .non (upd H l (.lst (xs++[y])))
theorem kU:MtM X "list.append" Kh:=by
 intro L s Y H x vs v us Q I rx rv h;obtain⟨l,xs,y,rfl,rfl,hH,hz,q⟩:=h;cases rx;obtain⟨u,rfl,ru⟩:=rv.one;obtain⟨z,its,n,r,hl,e⟩:=I.sV hH;refine BH F.slot_list_append ⟨_,e,rfl⟩ F.entry_list_append (F.args_list_append_2 _ _) (PySem.list_append l its.toArray n u (by rw[dC];lia)) ⟨e,?_⟩
 refine⟨.non,_,I.Kg (its':=its++[u]) hH e ⋯ (r.append (.cons ru .nil)) ?_,rfl,q⟩;rw[eC,l5];lia
def Kl:V->List V->Hp->VK->Prop:=λx vs H Q=>∃l b xs zs,x=.ref l/\vs=[.ref b]/\H l=some (.lst xs)/\H b=some (.lst zs)/\xs.length+zs.length<=sizeLine/\Q .non (upd H l (.lst (xs++zs)))
theorem Bd:MtM X "list.extend" Kl:=by
 intro L s Y H x vs v us Q I rx rv h;obtain⟨l,b,xs,zs,rfl,rfl,hH,hB,hz,q⟩:=h;cases rx;obtain⟨u,rfl,ru⟩:=rv.one;cases ru;obtain⟨z,its,n,r,hl,e⟩:=I.sV hH;obtain⟨z2,g8,n2,r2,hl2,e2⟩:=I.sV hB;have za:its.toArray.size+g8.toArray.size<=sizeLine:=by rw[dC,dC];lia
 have vd : ¬ (!its.toArray.isEmpty&&Builtin.List.listTooLong (its.toArray.size+g8.toArray.size))=true:=by rw[oB za,Do];exact i8
 refine BH F.slot_list_extend ⟨_,e,rfl⟩ F.entry_list_extend (F.args_list_extend_2 _ _)
  (AutoSeq1.list_extend_list_list_0 l its.toArray n b g8.toArray n2 vd (by rw[dC];lia) ⋯) ⟨e,e2,?_⟩
 refine⟨.non,_,I.Kg (its':=its++g8) hH e ⋯ (r.append r2) ?_,rfl,q⟩;rw[eC];lia
def Qx:V->List V->Hp->VK->Prop:=λx vs H Q=>∃l xs i k y,x=.ref l/\vs=[.int i]/\H l=some (.lst xs)/\-(2 ^ 63)<=i/\i<2 ^ 63/\seqIndex? i xs.length=some k/\xs[k]?=some y/\Q y (upd H l (.lst (xs.eraseIdx k)))
theorem Et:MtM X "list.pop" Qx:=by
 intro L s Y H x vs v us Q I rx rv h;obtain⟨l,xs,i,k,y,rfl,rfl,hH,h1,h2,hk,hy,q⟩:=h;cases rx;obtain⟨u,rfl,ru⟩:=rv.one;obtain⟨t,rfl⟩:=ru;obtain⟨z,its,n,r,hl,e⟩:=I.sV hH;obtain⟨w,hw,rw'⟩:=r.get hy;refine BH F.slot_list_pop ⟨_,e,rfl⟩ F.entry_list_pop (F.args_list_pop_2 _ _)
  (MeetsSeq.list_pop_at l its.toArray n i t k w (fitsIndex_both h1 h2) (by rw[dC,<- hl];exact hk) (by rw[<- Array.getElem?_toList];exact hw) (by rw[dC];lia)) ⟨e,?_⟩
 refine⟨y,_,I.Kg (its':=its.eraseIdx k) hH e ?_ (r.eraseIdx k) ?_,rw',q⟩
 . show its.toArray.eraseIdxIfInBounds k=(its.eraseIdx k).toArray;rw[List.eraseIdxIfInBounds_toArray]
 . have:=qY xs k;lia
def rCat:R2:=λx y H Q=>∃l b xs zs,x=.ref l/\y=.ref b/\H l=some (.lst xs)/\H b=some (.lst zs)/\xs.length+zs.length<=sizeLine/\∀p,H p=none->Q (.ref p) (upd H p (.lst (xs++zs)))
theorem Qy:kN X (binaryOp .Add) rCat:=by
 intro L s Y H x y v u Q I rx ry h;obtain⟨l,b,xs,zs,rfl,rfl,hH,hB,hz,q⟩:=h;cases rx;cases ry;obtain⟨z,its,n,r,hl,e⟩:=I.sV hH;obtain⟨z2,g8,n2,r2,hl2,e2⟩:=I.sV hB;refine PySem.P.add_list e e2 ?_ (by rw[dC,dC];lia)
 have ea:its.toArray++g8.toArray=(its++g8).toArray:=by simp
 rw[ea];exact⟨.ref _,_,I.WQ (t':=s.toks) (r.append r2) (by rw[eC];lia),rfl,q _ I.fresh⟩
def rRep:R2:=λx y H Q=>∃l k xs,x=.ref l/\y=.int k/\H l=some (.lst xs)/\-(2 ^ 63)<=k/\k<2 ^ 63/\xs.length * k.toNat<=sizeLine/\
 ∀p,H p=none->Q (.ref p) (upd H p (.lst (List.replicate k.toNat xs).flatten))
theorem len_rep{α:Type}(xs:List α)(k:Nat):(List.replicate k xs).flatten.length=k * xs.length:=by
 induction k with
 |zero=>simp
 |succ k ih=>rw[oI,tP,eC,ih,Nat.succ_mul,Nat.add_comm]
theorem Qz:kN X (binaryOp .Mult) rRep:=by
 intro L s Y H x y v u Q I rx ry h;obtain⟨l,k,xs,rfl,rfl,hH,h1,h2,hz,q⟩:=h;cases rx;obtain⟨t,rfl⟩:=ry;obtain⟨z,its,n,r,hl,e⟩:=I.sV hH;have aL:its.toArray.size * k.toNat<=sizeLine:=by rw[dC,<- hl];exact hz
 have hcap : ¬ its.toArray.size * k.toNat > (2 ^ 63 - 1) / 8:=by
  have:(sizeLine:Nat)<=(2 ^ 63 - 1) / 8:=by decide
  lia
 have hfit : ¬ (!Builtin.List.listFitsIndex k)=true:=by rw[fitsIndex_both h1 h2];exact i8
 have vd : ¬ Builtin.List.listTooLong (its.toArray.size * k.toNat)=true:=by rw[oB aL];exact i8
 have hnew:List.foldl (λx1 x2=>x1++x2) #[] (List.replicate (if its.toArray.isEmpty=true then 0 else k.toNat) its.toArray)=(List.replicate k.toNat its).flatten.toArray:=by
  have f0:∀m:Nat,List.foldl (λx1 x2=>x1++x2) #[] (List.replicate m its.toArray)=(List.replicate m its).flatten.toArray:=λm=>by
   have:=foldl_rep its m [];rw[AZ]at this;exact this
  rw[f0];cases its with
  |nil=>simp
  |cons a r'=>rw[hU ⋯]
 refine wpAny_binaryOp_repeat_ref (T:= "list") (U:= "int") ⋯ ⟨_,e,rfl⟩ (λs'=>typeIs_int s' k t) noFill_list_mul F.fills_int_mul F.slot_int_rmul repeat_list F.slot_int_index.lookup
  (BH F.slot_int_rmul (typeIs_int s k t) F.entry_int_rmul (F.args_int_rmul_2 _ _) (int___rmul___int_list k t l its.toArray n)
   ⟨e,rfl,⟨_,e,rfl⟩,BH F.slot_list_mul ⟨_,e,rfl⟩ F.entry_list_mul (F.args_list_mul_2 _ _) (AutoListH.list___mul___list_int_3 l its.toArray n k t hfit hcap vd) ⟨e,?_⟩⟩)
 rw[hnew];exact⟨.ref _,_,I.WQ (t':=s.toks) (r.rep k.toNat) (by rw[len_rep,Nat.mul_comm];exact hz),rfl,q _ I.fresh⟩
end
end L2
namespace Att
open PySem PySem.W PySem.Calls PyProof.Rows
theorem nq:∀(ns: ~~~0) (vs:List Value),WellAll P h vs (ns.map WData.int)->IntsAre vs ns:=by
 intro ns
 induction ns with
 |nil=>intro vs w;rw[List.map_nil]at w;cases w;exact .nil
 |cons n ns ih=>
  intro vs w;rw[List.map_cons]at w;cases w with
  |cons a b=>cases a;exact .cons _ _ (ih _ b)
theorem Be{l:OpenLaw}{n:Nat}(hn:l.most=some n){P:Params}{h:Heap}{args:List WData}{vals:List Value}
  (hpre:l.row.toRowW.claim.pre args=true) (hwl:WellAll P h vals args) :
  ∃a vs ns,vals=[Value.ref a]/\args=[WData.list (ns.map WData.int)]/\h.get? a=some { cls:=.type "list",data:=.seq vs.toArray}/\IntsAre vs ns/\ns.length<=n:=by
 have hsh:WShape.hasAll [] args [.list .int]=true:=(pre_splitW hpre).1;have hc:l.pre.holds [] { args:=args}=true:=(pre_splitW hpre).2;obtain⟨d,r,rfl,h1,h2⟩:=hasAllW_cons hsh;obtain rfl:=hasAllW_nil h2;obtain⟨xs,rfl,h3⟩:=hasW_list h1;obtain⟨ns,rfl⟩:=items_int h3;have aL:ns.length<=n:=by
  unfold OpenLaw.pre at hc;have h4:(WTm.not (.lt (.lit (.int (n:Int))) (.len (.arg 0)))).holds [] { args:=[.list (ns.map .int)]}=true:=by have h4:=(holds_andW hc).1;rw[hn]at h4;exact h4
  have h5:=condW_of h4 (w_not (w_lt w_lit (w_len_list (w_arg rfl))));rw[eA]at h5;refine Nat.le_of_not_lt λq=>?_
  have q':(n:Int)<((ns.length:Nat):Int):=by lia
  first
   | (rw[l7 q']at h5;exact absurd h5 ⋯)
   | (simp at h5;lia)
 cases hwl with
 |cons w1 w2=>
  cases w2;cases w1 with
  |list ho hall=>exact⟨_,_,ns,rfl,rfl,ho,nq ns _ hall,aL⟩
theorem Bf(l:OpenLaw)(args:List WData):l.row.toRowW.claim.post args (.bool true) args=true:=
 postW_of (r:=l.row.toRowW) (X:=(true==true))
  (show WShape.has [] (.bool true) .bool=true by first |rfl |decide |simp[WShape.has,WShape.arms,WShape.armsAll])
  (show (WTm.eq .res (.lit (.bool true))).value [] { args:=args,res:=some (.bool true),after:=args}=some (.bool (true==true))from w_eq_bool (w_res rfl) w_lit) rfl
theorem ve{l:OpenLaw}{n:Nat}{q:Program}{loose:List Str}{XP:(Str->Option Value)->Heap->Prop}{YP:World->Heap->Prop}{d:DefRec}
  (hn:l.most=some n) (mj:d.params.defaults=[])
  (call:∀(w:World) (s₀ s₁:Shared) (mg mb:Str->Option Value) (fa:Addr) (o:Obj) (pm cd doc:Value) (a:Addr) (vs:List Value) (ns: ~~~0),
   Ground q loose [] XP w s₀ mg mb s₁.heap->YP w s₁.heap->
   s₁.heap.get? fa=some o->o.data=.func (docDef d.name d.params d.body d.scope pm cd doc)->s₁.heap.CodeRec cd d.name->mg d.name=some (.ref fa)->
   s₁.heap.get? a=some { cls:=.type "list",data:=.seq vs.toArray}->IntsAre vs ns->ns.length<=n->s₁.gens = #[]->
   codeAny (model l.prog w) callerA (.call (.ref fa) ⟨[.ref a],[]⟩) (λr s'=>r=.ok (.ret (.bool true))/\OldK s₁.heap s'.heap/\s'.os=s₁.os/\AllBare s'.gens) s₁) :
  WalkO q loose XP YP l.row.toRowW d [] (λf vs=>PySem.call f vs):=by
 intro w s₀ s₁ mg mb G qqq fa o pm cd doc dV kV ho hd eF hD hmg hg args vals as hpre hlay hrd hwl hlo;obtain rfl:dV=.none:=Dflts.none hD mj;obtain rfl:kV=.none:=Dflts.noKw hD;obtain⟨a,vs,ns,rfl,rfl,hobj,hints,aL⟩:=Be hn hpre hwl;refine enter_call (codeAny_mono (call w s₀ s₁ mg mb fa o pm cd doc a vs ns G qqq ho (fd_plain hd) eF hmg hobj hints aL hg) λr s' hq=>?_)
 obtain⟨rfl,h2,h3,h4⟩:=hq;exact⟨.inl ⟨.bool true,.bool true,[],rfl,λ_=>rfl,.bool true,Bf l _,λ_=>⟨List.Pairwise.nil,λ_ hm=>(nomatch hm)⟩⟩,h2,h3,h4⟩
end Att
namespace L2
theorem iY:∀{vs:List Value}{ns: ~~~0},IntsAre vs ns->Vals (ns.map V.int) vs
 |_,_,.nil=>.nil
 |_,_,.cons n t h=>.cons ⟨t,rfl⟩ (iY h)
abbrev KOf{K:Frag}{h:Heap}(_:K.In h):Frag:=K
abbrev Jr:Eo:=λ_ _ _ _ _ _=>False
abbrev E0:XK:=λ_ _ _=>False
theorem WR:Passes Jr X E0:=λ_ _ _ _ _ _ _ h=>h.elim
structure WT(K:Frag)(x qual:Str)(st:Stmt)(f:Addr)(fd:FuncData):Prop where
 ex:∃(oc:Value) (od:Option Addr) (kV doc pm:Value) (an:Option Addr) (gg ct:Value) (osl:Array (Option Value)),
  fd=PySem.W.fnOf x qual (iW st) (cA st) (aZ st) .none kV doc pm an gg ct/\K.lookup f=some ⟨oc,od,.func fd,osl⟩/\PySem.W.codeIn K gg qual=true
 kp:PySem.W.keepIn K (.ref f)=true
section
variable{P:Program}{w:World}{K:Frag}{mg:Str->Option Value}{base:Heap}
theorem QB{x qual:Str}{st:Stmt}{f:Addr}{oc:Value}{od an:Option Addr}{osl:Array (Option Value)}{kV doc pm gg ct:Value}(l:K.lookup f=some ⟨oc,od,.func (PySem.W.fnOf x qual (iW st) (cA st) (aZ st) .none kV doc pm an gg ct),osl⟩)
  (c:PySem.W.codeIn K gg qual=true) (k:PySem.W.keepIn K (.ref f)=true):WT K x qual st f (PySem.W.fnOf x qual (iW st) (cA st) (aZ st) .none kV doc pm an gg ct):=⟨⟨oc,od,kV,doc,pm,an,gg,ct,osl,rfl,l,c⟩,k⟩
end
theorem qD{A B:Prop}(h:B):if false=true then A else B:=by rw[hU i8];exact h
theorem kW{A B:Prop}(h:A):if true=true then A else B:=by rw[fN rfl];exact h
noncomputable def Cx.block(X:Cx)(N:List Str)(scope:Scope)(cl:List (Str×Addr))(C:Addr)(s₀:Shared)(H₀:Hp)(fp:List Addr):Cx:=
 { X with N:=N,s₀:=s₀,H₀:=H₀,env:=compEnvC scope cl C X.env,outer:=X.stack,ex:=fp,fn:=λx=>scope.names.lookup x==some .local,pn:=[],xe:=λ_ _=>False}
structure Bk where
 cl:List (Str×Addr)
 C:Addr
 s₀:Shared
 H₀:Hp
 fp:List Addr
abbrev Cx.blk (X:Cx) (N:List Str) (scope:Scope) (b:Bk):Cx:=X.block N scope b.cl b.C b.s₀ b.H₀ b.fp
structure bR(sc scope:Scope):Prop where
 kind:scope.kind=.function
 Eu:∀y∈scope.names,y.2≠.cell
 uniq:∀y∈scope.names,y.2=.local->scope.names.lookup y.1=some .local
 WW:∀y∈scope.names,y.2=.free->scope.names.lookup y.1=some .free
 free:∀y∈scope.names,y.2=.free->sc.names.lookup y.1=some .cell\/sc.names.lookup y.1=some .free
theorem mem_of_lookup{α:Type}{x:Str}{v:α}:∀{l:List (Str×α)},l.lookup x=some v->(x,v)∈l
 | [],h=>by simp at h
 | (n,k)::r,h=>by
  cases hx:x==n with
  |true=>
   simp only[sT,hx]at h;symm;have e:x=n:=by simpa using hx
   subst e;exact c8
  |false=>simp only[sT,hx]at h;exact bP _ (mem_of_lookup h)
theorem iD{env:Env}{x:Str}:∀{names:List (Str×NameKind)},
  (names.map λ(n,k)=>if (k==NameKind.free&&env.scope.kind==.function&&env.kindOf n==some .cell)then (n,NameKind.cell)else (n,k)).lookup x
   = (names.lookup x).map λk=>if (k==NameKind.free&&env.scope.kind==.function&&env.kindOf x==some .cell)then NameKind.cell else k
 | []=>rfl
 | (n,k)::r=>by
  have ih:=@iD env x r;show List.lookup x ((if (k==NameKind.free&&env.scope.kind==.function&&env.kindOf n==some .cell)=true then (n,NameKind.cell)else (n,k))::_)=_
  cases hx:x==n with
  |true=>
   have e:x=n:=by simpa using hx
   subst e;by_cases hc:(k==NameKind.free&&env.scope.kind==.function&&env.kindOf x==some .cell)=true
   . rw[fN hc];simp only[sT,hx,BO,fN hc]
   . rw[hU hc];simp only[sT,hx,BO,hU hc]
  |false=>
   by_cases hc:(k==NameKind.free&&env.scope.kind==.function&&env.kindOf n==some .cell)=true
   . rw[fN hc];simp only[sT,hx];exact ih
   . rw[hU hc];simp only[sT,hx];exact ih
theorem xR(h:∀y∈scope.names,y.2=.free->∃c,env.cells.lookup y.1=some c) :
  ∃cl,closureFor scope env=pure cl/\(∀x c,cl.lookup x=some c->env.cells.lookup x=some c/\(x,NameKind.free)∈scope.names)/\∀y∈scope.names,y.2=.free->∃c,cl.lookup y.1=some c:=by
 have key:∀(names:List (Str×NameKind)) (acc:List (Str×Addr)),(∀y∈names,y.2=.free->∃c,env.cells.lookup y.1=some c)->
   ∃cl,(forIn names acc λ(x:Str×NameKind) (cs:List (Str×Addr))=>(match x with | (name,kind)=>if (kind==.free)=true then (do let c <- cellOf env name;pure (ForInStep.yield ((name,c)::cs)))else pure (ForInStep.yield cs):Sem (ForInStep (List (Str×Addr)))))=pure cl/\
    (∀x c,cl.lookup x=some c->acc.lookup x=some c\/(env.cells.lookup x=some c/\(x,NameKind.free)∈names))/\(∀y∈names,y.2=.free->∃c,cl.lookup y.1=some c)/\∀x c,acc.lookup x=some c->∃c',cl.lookup x=some c':=by
  intro names
  induction names with
  |nil=>intro acc _;exact⟨acc,rfl,λx c e=>.inl e,(λy hy=>nomatch hy),λx c e=>⟨c,e⟩⟩
  |cons y r ih=>
   intro acc hf;obtain⟨n,k⟩:=y;rw[List.forIn_cons];by_cases hk:(k==NameKind.free)=true
   .
    obtain⟨c,hc⟩:=hf (n,k) c8 (by simpa using hk)
    have hc':env.cells.lookup n=some c:=hc;obtain⟨cl,e,h1,h2,h3⟩:=ih ((n,c)::acc) λy hy=>hf y (bP _ hy)
    refine⟨cl,?_,λx c' q=>?_,λy hy Zv=>?_,λx c' q=>?_⟩
    .
     have ec:cellOf env n=pure c:=by unfold cellOf;rw[hc']
     show ((if (k==NameKind.free)=true then (do let c <- cellOf env n;pure (ForInStep.yield ((n,c)::acc)))else pure (ForInStep.yield acc)) >>= _)=_
     rw[fN hk,ec];exact e
    .
     rcases h1 x c' q with z |⟨z1,z2⟩
     .
      cases hx:x==n with
      |true=>
       simp only[sT,hx]at z;cases z;have e:x=n:=by simpa using hx
       subst e;have ek:k=NameKind.free:=by simpa using hk
       subst ek;exact .inr ⟨hc',c8⟩
      |false=>simp only[sT,hx]at z;exact .inl z
     . exact .inr ⟨z1,bP _ z2⟩
    .
     rcases d6.mp hy with rfl |hy
     . exact h3 n c ⋯
     . exact h2 y hy Zv
    .
     cases hx:x==n with
     |true=>
      have e:x=n:=by simpa using hx
      subst e;exact h3 x c ⋯
     |false=>exact h3 x c' (by simp only[sT,hx];exact q)
   .
    obtain⟨cl,e,h1,h2,h3⟩:=ih acc λy hy=>hf y (bP _ hy)
    refine⟨cl,?_,λx c' q=>?_,λy hy Zv=>?_,h3⟩
    .
     show ((if (k==NameKind.free)=true then (do let c <- cellOf env n;pure (ForInStep.yield ((n,c)::acc)))else pure (ForInStep.yield acc)) >>= _)=_
     rw[hU hk];exact e
    .
     rcases h1 x c' q with z |⟨z1,z2⟩
     . exact .inl z
     . exact .inr ⟨z1,bP _ z2⟩
    .
     rcases d6.mp hy with rfl |hy
     . exact absurd Zv (by simpa using hk)
     . exact h2 y hy Zv
 obtain⟨cl,e,h1,h2,_⟩:=key scope.names [] h;refine⟨cl,?_,λx c q=>?_,h2⟩
 . exact (congrArg (λ(m:Sem (List (Str×Addr)))=>m >>= λcs=>pure cs) e:_)
 .
  rcases h1 x c q with z |z
  . simp at z
  . exact z
def jY(X:Cx)(ifs:List Expr)(t:TT):Prop:=
 ∀(L: ~~~1) (s:Shared) (Y:St) (H:Hp) (Q:Bool->Hp->Prop),Inv X L Y H s->t Y H Q->
  wpAny (~~~2) X.A (forIn ifs true λc r=>if r=true then do let ok <- isTrue c X.env (eval c X.env);pure (ForInStep.yield ok)else pure (ForInStep.yield r)) (TP X L Y Q) X.xe s
def zu:TT:=λ_ H Q=>Q true H
theorem oE:jY X [] zu:=λ_ _ _ H _ I h=>wpAny_tests_nil ⟨H,I,h⟩
theorem Ew(h:PT X c t):jY X [c] t:=λL s Y H Q I hw=>wpAny_tests_one (h L s Y H Q I hw)
noncomputable def sY(e target iter:Expr)(ifs:List Expr)(d:Nat)(it acc:Value)(env:Env)(em:Sem Unit):Sem Fin:=do
 standAt iter.pos
 match <- pyNext it with
 |none=>pure (.done .next)
 |some v=>
  letOwnedTupleGo target it v
  assign target env v
  let mut ok:=true
  for c in ifs do
   if ok then ok <- isTrue c env (eval c env)
  if ok then em
  again (.compLoop e d it acc env)
def Cu(ce:Expr):Prop:=∀(prog:Program) (w:World) (A:Around) (d:Nat) (it acc:Value) (env:Env),A.under (.compLoop ce d it acc env)=A/\(model prog w).den (.compLoop ce d it acc env)=(compTurn ce d it acc env).onRaise (λx=>do noteFrame x env;theTreesLotGoes x)
theorem jZ{prog:Program}{w:World}{A:Around}{R:Result->Shared->Prop}{s:Shared}{ce target iter:Expr}{ifs:List Expr}{d:Nat}{it acc:Value}{env:Env}{em:Sem Unit}(hu:Cu ce)(ht:compTurn ce d it acc env=sY ce target iter ifs d it acc env em)(I:Nat->Shared->Prop)
  (turn:∀n s,I n s->wpAny (model prog w) A (pyNext it) (λr s₁=>match r with
   |none=>R (.ok .next) s₁
   |some v=>wpAny (model prog w) A (letOwnedTupleGo target it v) (λ_ s₁'=>wpAny (model prog w) A (assign target env v) (λ_ s₂=>
     wpAny (model prog w) A (forIn ifs true λc r=>if r=true then do let ok <- isTrue c env (eval c env);pure (ForInStep.yield ok)else pure (ForInStep.yield r)) (λok s₃=>
      if ok=true then wpAny (model prog w) A em (λ_ s₅=>∃m,m<n/\I m s₅) (λ_ _=>False) s₃
      else ∃m,m<n/\I m s₃) (λ_ _=>False) s₂) (λ_ _=>False) s₁') (λ_ _=>False) s₁) (λ_ _=>False) s)
  (n:Nat) (h:I n s) :
  codeAny (model prog w) A (.compLoop ce d it acc env) R s:=by
 refine codeAny_loop rfl I (λn s hI=>?_) n h
 rw[(hu prog w A d it acc env).1,(hu prog w A d it acc env).2];refine wpAny_noted ?_;rw[ht];refine aS (AE (aS (nE (turn n s hI) (λr s₁ h₁=>?_) λ_ _ h'=>h'.elim)))
 cases r with
 |none=>exact d5 h₁
 |some v=>
  refine aS (nE h₁ (λ_ s₁' h₁'=>?_) λ_ _ h'=>h'.elim)
  refine aS (nE h₁' (λ_ s₂ h₂=>aS (nE h₂ (λok s₃ h₃=>?_) λ_ _ h'=>h'.elim)) λ_ _ h'=>h'.elim)
  cases ok with
  |false=>exact d5 ⟨rfl,h₃⟩
  |true=>exact aS (nE h₃ (λ_ s₅ h₅=>d5 ⟨rfl,h₅⟩) λ_ _ h'=>h'.elim)
abbrev TU:=St->Hp->(St->Hp->Prop)->Prop
def PU(X:Cx)(m:Sem Unit)(t:TU):Prop:=
 ∀(L: ~~~1) (s:Shared) (Y:St) (H:Hp) (Q:St->Hp->Prop),Inv X L Y H s->t Y H Q->wpAny (~~~2) X.A m (λ_ s'=>∃σ' H',Inv X L σ' H' s'/\Q σ' H') (λ_ _=>False) s
def qE(D:Addr)(te:TE):TU:=λY H Q=>te Y H λv H5=>∃ys,H5 D=some (.lst ys)/\ys.length<sizeLine/\Q Y (upd H5 D (.lst (ys++[v])))
theorem xS(he:PE X cO te)(hx:X.xe=λ_ _=>False):PU X (do let _ <- call (.builtin "list.append") [.ref D,<- eval cO X.env]) (qE D te):=by
 intro L s Y H Q I h;have he:=he L s Y H _ I h;rw[hx]at he;refine aS (nE he (λy s8 ⟨v,H8,I8,r8,ys,hD8,hz8,q8⟩=>?_) λ_ _ z=>z)
 have ma:=kU L s8 Y H8 (.ref D) [v] (.ref D) [y] (λ_ H9=>Q Y H9) I8 rfl (.cons r8 .nil) ⟨_,ys,v,rfl,rfl,hD8,hz8,q8⟩
 rw[hx]at ma;exact aS (nE ma (λ_ s9 ⟨_,H9,I9,_,q9⟩=>d5 ⟨Y,H9,I9,q9⟩) λ_ _ z=>z)
noncomputable def σC(k:Nat)(D:Addr)(Y:St):St:=Y++(List.replicate k none++[some (.ref D)])
def BkIn(X:Cx)(Y:St)(b:Bk):Prop:=∃L,Inv X L Y b.H₀ b.s₀/\∀a∈b.fp,jV X L b.H₀ a
def Km(u0:HO)(X:Cx)(k:Nat)(g:Bk->TG)(tt:Bk->TT)(te:Addr->Bk->TU)(J:It)(D:Addr)(Y:St)(H1:Hp)(Q:VK):Prop:=
 ∃W:Nat->Nat->St->Hp->Prop,(∃m,W 0 m (σC k D Y) (upd H1 D u0))/\∀i m σ' H',W i m σ' H'->
  (J.stop i H'/\Q (.ref D) H')\/(J.go i H'/\∃Nn:St->Hp->Prop,(∀Bg Bh,Nn Bg Bh->∃m',m'<m/\W (i+1) m' Bg Bh)/\∀x H2,J.Wd i H' x H2->∀bk:Bk,BkIn X Y bk->g bk x σ' H2 λσ2 H3=>tt bk σ2 H3 λb H4=>
   if b=true then te D bk σ2 H4 Nn else Nn σ2 H4)
noncomputable def sZ(u0:HO)(X:Cx)(k:Nat)(wi:TI)(g:Bk->TG)(tt:Bk->TT)(te:Addr->Bk->TU):TE:=λY H Q=>wi Y H λJ H1=>∀D,H1 D=none->Km u0 X k g tt te J D Y H1 Q
abbrev qZ:=sZ (.lst [])
structure Ck(X:Cx)(ce tg iter:Expr)(ifs:List Expr)(rest:List Comprehension)(new:Sem Value)(u0:HO)(em:Value->Env->Sem Unit):Prop where
 cls:clausesOf ce=⟨tg,iter,ifs,0⟩::rest
 und:Cu ce
 turn:∀it D env,compTurn ce 0 it (.ref D) env=sY ce tg iter ifs 0 it (.ref D) env (em (.ref D) env)
 new:∃o0:Obj,o0.isFreed=false/\(∀{A:Around}{E Q:Value->Shared->Prop}{s:Shared},Q (.ref s⁻¹) { s with heap:=s.heap.push o0}->wpAny (~~~2) A new Q E s)/\
  ∀(H:Hp) (h:Heap) (a:Addr),h.get? a=some o0->(a==sysModules)=false->d9 X.prog X.w H h a u0
 start:∀{A:Around}{R:Result->Shared->Prop}{s:Shared}{it acc:Value}{env:Env},codeAny (~~~2) A (.compLoop ce 0 it acc env) R s->
  wpAny (~~~2) A (pyIter it) (λit' s'=>codeAny (~~~2) A (.compLoop ce 0 it' acc env) R s') (notedBy (~~~2) A env λx s'=>R (.error x) s') s->codeAny (~~~2) A (.compStart ce 0 it acc env) R s
theorem nL{X:Cx}{cO tg iter:Expr}{ifs:List Expr}{rest:List Comprehension}{scope:Scope}{pos:Pos}{em:Value->Env->Sem Unit}(h:∀it acc env,compTurn (.ListComp cO (⟨tg,iter,ifs,0⟩::rest) scope pos) 0 it acc env=sY (.ListComp cO (⟨tg,iter,ifs,0⟩::rest) scope pos) tg iter ifs 0 it acc env (em acc env)) :
  Ck X (.ListComp cO (⟨tg,iter,ifs,0⟩::rest) scope pos) tg iter ifs rest (newList []) (.lst []) em where
 cls:=rfl
 und:=λ_ _ _ _ _ _ _=>⟨rfl,rfl⟩
 turn:=λit D env=>h it (.ref D) env
 new:=⟨_,rfl,λh=>nK h,λ_ _ _ e _=>⟨wP _,[],_,.nil,e⟩⟩
 start:=codeAny_compStart_list
structure Names(N N':List Str)(scope:Scope)(k:Nat):Prop where
 len:N'.length=N.length+(k+1)
 last:∀x,N'[N.length+k]?=some x->scope.names.lookup x=none
 old:∀i x,N'[i]?=some x->i<N.length->scope.names.lookup x=none\/(N[i]?=some x/\scope.names.lookup x≠some .local)
theorem eS:(relabel scope env).names.lookup x=(scope.names.lookup x).map λk=>if (k==NameKind.free&&env.scope.kind==.function&&env.kindOf x==some .cell)then NameKind.cell else k:=iD
section
variable{X:Cx}
theorem oF(B:bR X.env.scope scope)(h:(compEnvC scope cl C X.env).kindOf x=some .cell\/(compEnvC scope cl C X.env).kindOf x=some .free) :
  (x,NameKind.free)∈scope.names:=by
 have e:(compEnvC scope cl C X.env).kindOf x=(scope.names.lookup x).map λk=>if (k==NameKind.free&&X.env.scope.kind==.function&&X.env.kindOf x==some .cell)then NameKind.cell else k:=eS
 rw[e]at h;cases q:scope.names.lookup x with
 |none=>rw[q]at h;rcases h with h |h <;> symm
 |some k=>
  have hm:=mem_of_lookup q;cases k with
  |free=>exact hm
  |cell=>exact absurd rfl (B.Eu _ hm)
  |_=>rw[q]at h;rcases h with h |h <;> (simp at h)
theorem Ey(B:bR X.env.scope scope)(I: ~~~7)(hC:s⁻¹<=C)
  (hf:∀b∈fp,jV X L H b) (hfs:∀b∈fp,b<s⁻¹)
  (hcl:∀x c,cl.lookup x=some c->X.env.cells.lookup x=some c/\(x,NameKind.free)∈scope.names) (Ko:∀y∈scope.names,y.2=.free->∃c,cl.lookup y.1=some c):(X.block N' scope cl C s H fp).Ok where
 mod:=I.ok.mod
 kind:=B.kind
 glob:=I.ok.glob
 blt:=I.ok.blt
 above:=hC
 inj:=λx y c h1 h2=>I.ok.inj x y c (hcl x c h1).1 (hcl y c h2).1
 has:=λx h=>Ko _ (oF (cl:=cl) (C:=C) B h) rfl
 Va:=λx c h1 h2=>by
  have e:scope.names.lookup x=some .local:=by have:(scope.names.lookup x==some NameKind.local)=true:=h1;simpa using this
  have h3:=(hcl x c h2).2;have q:=B.WW _ h3 rfl;rw[e]at q;cases q
 hd:=I.ok.hd
 frames:=I.ok.frames
 stk:=.inl rfl
 VR:=λb hb=>⟨l4 (fA (hfs b hb) hC),λx c e=>(hf b hb).2.2.2.2.1 x c (hcl x c e).1⟩
 bs:=I.bs
 JM:=kA I.ok.JM I.sz
 xE:=λb o e hb=>by
  obtain⟨_,_,_,h3,_⟩:=hf b hb;rcases h3 with h3 |h3
  . exact I.ok.xE b o e h3
  . exact absurd (fA (eR e) (kA I.ok.JM h3)) (mP _)
 Av:=λb hb hm=>by
  rcases d6.mp (I.xF b hm)with e |e
  . exact (hf b hb).2.1 e
  . exact (hf b hb).2.2.1 e
 nj:=I.stack
 P5:=I.zc
theorem gJ{L: ~~~1}{Y:St}{H:Hp}{s:Shared}{N':List Str}{k:Nat}{wi:TI}{g:Bk->TG}{tt:Bk->TT}{tu:Addr->Bk->TU}{ce:Expr}{rest:List Comprehension}{new:Sem Value}{u0:HO}{cp:Pos}{em:Value->Env->Sem Unit}{use:Option (Value->Sem Unit)}{Q:Value->Shared->Prop}{Q0:VK}
  (B:bR X.env.scope scope) (hc:X.calm=true) (hN:Names X.N N' scope k) (hi:PI X tg iter wi) (ck:Ck X ce tg iter ifs rest new u0 em)
  (hin:∀(b:Bk) (D:Addr),PG (X.blk N' scope b) tg (g b)/\jY (X.blk N' scope b) ifs (tt b)/\PU (X.blk N' scope b) (em (.ref D) (X.blk N' scope b).env) (tu D b))
  (hs:∀x,foldedSetIterable iter X.env x=pure x) (I: ~~~7) (h:sZ u0 X k wi g tt tu Y H Q0)
  (fin:∀s' H' D C m,Inv X L Y H' s'->jV X L H' C->s'.heap.Ns C m->Q0 (.ref D) H'->compPost (~~~2) X.A X.xe use Q (.ref D) C (.ok .next) s') :
  wpAny (~~~2) X.A (comprehension ce scope X.env cp new false (eval iter X.env) use) Q X.xe s:=by
 obtain⟨cl,hclos,hcl,Ko⟩:=xR (scope:=scope) (env:=X.env) λy hy hf=>I.ok.has y.1 (B.free y hy hf)
 refine wpAny_comprehension_free ck.cls hs hclos B.kind B.uniq (cz (hi L s Y H _ I h) λxv s₁ h₁=>cz h₁ λitv s₂ h₂=>?_)
 obtain⟨it,fp,tn,J,H2,rfl,I2,T,aN,f2,hW⟩:=h₂;obtain⟨o0,fr0,new0,ok0⟩:=ck.new;refine new0 (wpAny_newFunctionEnv B.Eu (by intro y hy;simp at hy) (λh₁ QC Kp=>?_) B.kind)
 dsimp only at QC Kp ⊢
 generalize hH2:s₂.heap.push o0=P2 at QC Kp ⊢
 have hC:P2.objs.size=s₂⁻¹+1:=by rw[<- hH2,mM]
 have hDC:s₂⁻¹≠P2.objs.size:=by rw[hC];exact l4 (mE _)
 have QD:s₂⁻¹<=P2.objs.size:=by rw[hC];exact AO _
 have old:∀b o,s₂.heap.get? b=some o->h₁.get? b=some o:=λb o e=>Kp.extBut b o (l4 (by rw[hC];exact y6 (eR e))) (b0 _ (hH2▸b0 _ e))
 have hD0:H2 s₂⁻¹=none:=I2.hok.fresh (eD _);have hC0:H2 P2.objs.size=none:=I2.hok.fresh QD;have nsys:(s₂⁻¹==sysModules)=false:=by
  have h1:mainGlobals<s₂⁻¹:=(I2.ok.mod.glob.keeps I2.bk).lt;refine Bool.eq_false_iff.mpr λq=>?_
  have q:=eq_of_beq q;rw[q]at h1;exact absurd h1 ⋯
 have fps:∀b∈fp,b<s₂⁻¹:=λb hb=>by
  obtain⟨o,e,_⟩:=T.obj _ _ aN b hb;exact eR e
 have ok':=Ey (N':=N') (cl:=cl) B I2 QD f2 fps hcl Ko;obtain⟨W,⟨m0,w0⟩,turn⟩:=hW s₂⁻¹ hD0;have fsub:∀b∈fp,b∉frs X.stack:=λb hb=>ok'.Av b hb
 obtain⟨hg,ht,he⟩:=hin ⟨cl,P2.objs.size,s₂,H2,fp⟩ s₂⁻¹;have I0:Inv (X.block N' scope cl P2.objs.size s₂ H2 fp) [] (σC k s₂⁻¹ Y) (upd H2 s₂⁻¹ u0) { s₂ with heap:=h₁,toks:=s₂.toks+([]:List (Str×Value)).length}:=by
  refine⟨ok',rfl,I2.bare,Un.laid old (eD _) hD0,⟨_,QC,λi x v e1 e2 e3=>?_⟩,λx c e=>?_,?_,λx c e=>?_,λp hp=>?_,I2.hok.laid old (eD _) ?_,?_⟩
  .
   have WX:(compEnvC scope cl P2.objs.size X.env).kindOf x=some .local\/(compEnvC scope cl P2.objs.size X.env).kindOf x=some .cell\/(compEnvC scope cl P2.objs.size X.env).kindOf x=some .free:=e3;have ek:(compEnvC scope cl P2.objs.size X.env).kindOf x=(scope.names.lookup x).map λk=>if (k==NameKind.free&&X.env.scope.kind==.function&&X.env.kindOf x==some .cell)then NameKind.cell else k:=eS
   have V2:i<Y.length:=by
    rcases v6 i Y.length with z |z
    . exact z
    .
     exfalso;unfold σC at e2;rw[eQ z]at e2;rcases v6 (i - Y.length) k with z2 |z2
     .
      rw[dS (by rw[i6];exact z2)]at e2
      have:=l6 e2;rw[xL]at this;exact absurd this.2 ⋯
     .
      rw[eQ (by rw[i6];exact z2),i6]at e2
      have z3:i - Y.length - k=0:=by
       rcases Nat.eq_zero_or_pos (i - Y.length - k)with q |q
       . exact q
       . rw[A5 (Nat.succ_le_of_lt q)]at e2;cases e2
      have z4:i=X.N.length+k:=by rw[<- I2.len];lia
      have hn:=hN.last x (by rw[<- z4];exact e1)
      rw[ek,hn]at WX;rcases WX with q |q |q <;> cases q
   have Ve:Y[i]?=some (some v):=by unfold σC at e2;rw[dS V2]at e2;exact e2
   have hiN:i<X.N.length:=by rw[<- I2.len];exact V2
   rcases hN.old i x e1 hiN with z |⟨z,z2⟩
   . rw[ek,z]at WX;rcases WX with q |q |q <;> cases q
   .
    have hfree:(compEnvC scope cl P2.objs.size X.env).kindOf x=some .cell\/(compEnvC scope cl P2.objs.size X.env).kindOf x=some .free:=by
     rcases WX with q |q
     .
      exfalso;rw[ek]at q;cases hq:scope.names.lookup x with
      |none=>rw[hq]at q;cases q
      |some kk=>
       rw[hq]at q;cases kk with
       | «local»=>exact z2 hq
       |free=>simp only[BO,Option.some.injEq]at q;split at q <;> cases q
       |_=>simp at q
     . exact q
    have hm:=oF (cl:=cl) (C:=P2.objs.size) B hfree;obtain⟨c,hc1⟩:=Ko _ hm rfl;have WY:cl.lookup x=some c:=hc1;have hc2:=(hcl x c WY).1;obtain⟨m2,hn2,hl2⟩:=I2.loc;have hvis:mq X.env.scope x:=(B.free _ hm rfl).elim (λa=>.inr (.inl a)) λa=>.inr (.inr a)
    obtain⟨u,ru,lk⟩:=hl2 i x v z Ve hvis;refine⟨u,ru,.inr ⟨hfree,c,WY,?_⟩⟩;rcases lk with ⟨q1,_⟩ |⟨_,c',q1,q2⟩
    .
     exfalso;have Dw:X.env.scope.names.lookup x=some .local:=q1;rcases B.free _ hm rfl with y |y
     . have y':X.env.scope.names.lookup x=some .cell:=y;rw[Dw]at y';cases y'
     . have y':X.env.scope.names.lookup x=some .free:=y;rw[Dw]at y';cases y'
    . rw[hc2]at q1;cases q1;obtain⟨o,ho,hd⟩:=q2;exact⟨o,old _ _ ho,hd⟩
  . obtain⟨v,o,ho,hd⟩:=I2.cell x c (hcl x c e).1;exact⟨v,o,old _ _ ho,hd⟩
  . show upd H2 s₂⁻¹ u0 P2.objs.size=none;rw[aC (oQ hDC)];exact hC0
  . have q:=I2.jo x c (hcl x c e).1;obtain⟨v,z⟩:=I2.cell x c (hcl x c e).1;rw[aC (l4 z.lt)];exact q
  . exact absurd (show p∈([]: ~~~1)from hp) ⋯
  . exact ok0 _ _ _ (Kp.extBut _ _ hDC (b0 _ (hH2▸eJ _ fr0))) nsys
  . show (σC k s₂⁻¹ Y).length=N'.length;unfold σC;rw[eC,eC,i6,hN.len,I2.len];rfl
 have stat:∀{H':Hp},(∀b∈fp,H' b=none)->∀b∈fp,jV (X.block N' scope cl P2.objs.size s₂ H2 fp) [] H' b:=λhn b hb=>
  ⟨hn b hb,(ok'.VR b hb).1,fsub b hb,.inl hb,λx c e=>(ok'.VR b hb).2 x c e,λp hp=>absurd (show p∈([]: ~~~1)from hp) ⋯⟩
 have loop:∀s₃:Shared,s₃={ s₂ with heap:=h₁,toks:=s₂.toks+([]:List (Str×Value)).length}->
   codeAny (~~~2) X.A (.compLoop ce 0 (.ref it) (.ref s₂⁻¹) (compEnvC scope cl P2.objs.size X.env))
    (compPost (~~~2) X.A X.xe use Q (.ref s₂⁻¹) P2.objs.size) s₃:=by
  rintro s₃ rfl;refine jZ ck.und (ck.turn _ _ _) (λn s'=>∃i σ' H',Inv (X.block N' scope cl P2.objs.size s₂ H2 fp) [] σ' H' s'/\tn i s'.heap/\(∀b∈fp,H' b=none)/\W i n σ' H') ?_ m0
   ⟨0,_,_,I0,T.keep _ _ _ aN λb hb o e=>old b o e,λb hb=>?_,w0⟩
  .
   rintro n s3 ⟨i,σ3,H3,I3,eK,Oc,w3⟩;rcases turn i n σ3 H3 w3 with ⟨stop,qn⟩ |⟨go,Nn,hNn,step⟩
   .
    refine cz (T.done (X.block N' scope cl P2.objs.size s₂ H2 fp) rfl rfl rfl hc i [] s3 σ3 H3 (λ_ _=>False) I3 (stat Oc) eK stop) λr s4 ⟨hr,I4⟩=>?_
    subst hr;obtain⟨m,hm,_⟩:=id I4.loc;have I5:Inv X L Y H3 s4:=I2.call' (ch:=fp) I4.os I4.base I4.hok I4.bare λb hb=>⟨(f2 b hb).2.2.2.1,(f2 b hb).2.1,(f2 b hb).2.2.2.2.1,(f2 b hb).2.2.2.2.2⟩
    exact fin s4 H3 _ _ m I5 (I2.uY QD I4.free) hm qn
   .
    refine cz (T.item (X.block N' scope cl P2.objs.size s₂ H2 fp) rfl rfl rfl hc i [] s3 σ3 H3 (λ_ _=>False) I3 (stat Oc) eK go) λr s4 ⟨u,hr,h4⟩=>?_
    subst hr;refine cz h4 λ_ s5 ⟨x,H5,I5,r5,y5,kT,Wi⟩=>?_
    have Wj:=I5.pinned (stat Wi) (T.obj _ _ kT);have again:∀{σ7:St}{H7:Hp}{s7:Shared},Inv (X.block N' scope cl P2.objs.size s₂ H2 fp) ([]++kQ fp s5.heap) σ7 H7 s7->Nn σ7 H7->∃m,m<n/\∃i σ' H',Inv (X.block N' scope cl P2.objs.size s₂ H2 fp) [] σ' H' s7/\tn i s7.heap/\(∀b∈fp,H' b=none)/\W i m σ' H':=λ{σ7 H7 s7} I7 n7=>by
     obtain⟨m',hm,w7⟩:=hNn σ7 H7 n7;refine⟨m',hm,i+1,σ7,H7,I7.iC,T.keep _ _ _ kT λb hb o e=>(I7.pin (b,o) (i7 _ (i7 _ (dM hb e)))).1,λb hb=>?_,w7⟩
     obtain⟨o,e,d⟩:=T.obj _ _ kT b hb;exact (I7.pin (b,o) (i7 _ (i7 _ (dM hb e)))).2.1
    refine cz (hg _ s5 σ3 H5 x u _ Wj r5 (step x H5 y5 ⟨cl,P2.objs.size,s₂,H2,fp⟩ ⟨L,I2,f2⟩)) λ_ s6 ⟨σ6,H6,I6,q6⟩=>?_
    refine cz (ht _ s6 σ6 H6 _ I6 q6) λb s7 ⟨H7,I7,q7⟩=>?_
    cases b with
    |false=>
     rw[hU i8]at q7 ⊢
     exact again I7 q7
    |true=>
     rw[fN rfl]at q7 ⊢
     exact nE (he _ s7 σ6 H7 _ I7 q7) (λ_ s9 ⟨σ9,H9,I9,q9⟩=>again I9 q9) λ_ _ z=>z
  . show upd H2 s₂⁻¹ u0 b=none;rw[aC (l4 (fps b hb))];exact (f2 b hb).1
 refine ck.start (loop _ rfl) (T.self _ 0 _ _ _ ?_ (loop _ rfl));exact T.keep _ _ _ aN λb hb o e=>old b o e
theorem Kq{N':List Str}{k:Nat}{wi:TI}{g:Bk->TG}{tt:Bk->TT}{te:Bk->TE}(B:bR X.env.scope scope)(hc:X.calm=true)(hN:Names X.N N' scope k)(hi:PI X tg iter wi)
  (hin:∀b:Bk,PG (X.blk N' scope b) tg (g b)/\jY (X.blk N' scope b) ifs (tt b)/\PE (X.blk N' scope b) cO (te b))
  (hs:∀x,foldedSetIterable iter X.env x=pure x:=by intro _;rfl):PE X (.ListComp cO [⟨tg,iter,ifs,0⟩] scope pos) (qZ X k wi g tt λD b=>qE D (te b)):=by
 intro L s Y H Q I h;rw[eval_ListComp];refine gJ (use:=none) B hc hN hi (nL (rest:=[]) (em:=λacc env=>do let _ <- call (.builtin "list.append") [acc,<- eval cO env]) λ_ _ _=>rfl) (λb D=>⟨(hin b).1,(hin b).2.1,xS (hin b).2.2 rfl⟩) hs I h λs' H' D C m I' f' hn q=>?_
 refine⟨m,hn,λh' sb=>⟨.ref D,H',?_,rfl,q⟩⟩
 obtain⟨f0,f1,f2,f3,f4,f5⟩:=f';exact I'.turned (t':=s'.toks) (λb o hb e=>(sb.2 b hb).trans e) f0 f1 f3 f4 f5
theorem zA{N':List Str}{k:Nat}{wi:TI}{g:Bk->TG}{tt:Bk->TT}{te:Bk->TE}{i:Nat}{y:Str}{py bY:Pos}(B:bR X.env.scope scope)(hc:X.calm=true)(hN:Names X.N N' scope k)(hi:PI X tg iter wi)
  (hin:∀b:Bk,PG (X.blk N' scope b) tg (g b)/\jY (X.blk N' scope b) ifs (tt b)/\PE (X.blk N' scope b) cO (te b))
  (Ez:X.N.Nodup) (hy:X.N[i]?=some y) (hl:X.env.scope.names.lookup y=some .local)
  (hsw:swapsWith (.ListComp cO [⟨tg,iter,ifs,0⟩] scope pos) (some (.Name y py)) bY.line X.env=pure true)
  (hs:∀x,foldedSetIterable iter X.env x=pure x:=by intro _;rfl):PS X (.Assign [.Name y py] (.ListComp cO [⟨tg,iter,ifs,0⟩] scope pos) bY) (JW (qZ X k wi g tt λD b=>qE D (te b)) (uX i)):=by
 intro L s Y H D0 I h;rw[exec_Assign_Name_used _ _ _ _ hsw];refine aS (AE (aS ?_));show wpAny _ X.A (do let _ <- comprehension (.ListComp cO [⟨tg,iter,ifs,0⟩] scope pos) scope X.env _ (newList []) false (eval iter X.env) (some (assign (.Name y py) X.env))) _ _ s
 refine aS (nE (gJ (use:=some (assign (.Name y py) X.env)) (Q:=λ_ s'=>SP X L D0 .next s') B hc hN hi (nL (rest:=[]) (em:=λacc env=>do let _ <- call (.builtin "list.append") [acc,<- eval cO env]) λ_ _ _=>rfl) (λb D=>⟨(hin b).1,(hin b).2.1,xS (hin b).2.2 rfl⟩) hs I h λs' H' D C m I' f' hn q=>?_) (λ_ s' hq=>d5 (d5 hq)) λ_ _ e=>e)
 refine wpAny_assign_Name (kP I' Ez hy (.inl hl) (v:=.ref D) rfl (λs2 I2 hsb=>?_) (.inr hl))
 obtain⟨f0,f1,f2,f3,f4,f5⟩:=f';obtain⟨a,sb,ha⟩:=hsb;have nC:C≠a:=by
  rcases ha with e |e
  . rw[e];exact f1
  . exact oQ (f4 _ _ e)
 refine⟨m,hn.sameBut sb nC,λh' sb'=>⟨_,H',?_,q⟩⟩
 exact I2.turned (t':=s2.toks) (λb o hb e=>(sb'.2 b hb).trans e) f0 f1 f3 f4 f5
end
section
theorem jx
  (h0:codeAny (model prog w) A (.compLoop (.ListComp cO [⟨t1,i1,f1,0⟩,⟨target,iter,ifs,0⟩] scope pos) 1 it acc env) R s)
  (h:wpAny (model prog w) A (pyIter it) (λit' s'=>codeAny (model prog w) A (.compLoop (.ListComp cO [⟨t1,i1,f1,0⟩,⟨target,iter,ifs,0⟩] scope pos) 1 it' acc env) R s') (λ_ _=>False) s) :
  codeAny (model prog w) A (.compStart (.ListComp cO [⟨t1,i1,f1,0⟩,⟨target,iter,ifs,0⟩] scope pos) 1 it acc env) R s:=by
 refine codeAny_of_tree ?_;show wpAny _ _ ((compStart (.ListComp cO [⟨t1,i1,f1,0⟩,⟨target,iter,ifs,0⟩] scope pos) 1 it acc env).onRaise (λx=>do noteFrame x env;standAt theWindowsPlace)) _ _ s
 refine wpAny_notedAt ?_;unfold compStart;show wpAny _ _ (ask >>= _) _ _ s;refine aS (wpAny_askSetting (wpAny_ite ?_));split
 .
  first
   |exact aS (d5 (d5 (And.intro rfl h0)))
   |exact d5 (And.intro rfl h0)
 .
  first
   |exact aS (C1 (aS (AE (aS (nE h (λit' s' h'=>d5 (And.intro rfl h')) λ_ _ x=>x.elim)))))
   | (refine aS (C1 ?_);show wpAny _ _ (standAt iter.pos >>= _) _ _ s;exact aS (AE (aS (nE h (λit' s' h'=>d5 (And.intro rfl h')) λ_ _ x=>x.elim))))
end
noncomputable def Bj(cO t1 i1 tg iter:Expr)(f1 ifs:List Expr)(scope:Scope)(pos:Pos)(acc:Value)(env:Env):Sem Unit:=do
 let x <- eval iter env
 standAt iter.pos
 let x <- foldedSetIterable iter env x
 let _ <- runOwn (.compStart (.ListComp cO [⟨t1,i1,f1,0⟩,⟨tg,iter,ifs,0⟩] scope pos) 1 (<- holding [x] (pyIter x)) acc env) env
noncomputable def W0(wi:TI)(g:TG)(tt:TT)(tu:TU):TU:=λY H Q=>wi Y H λJ H1=>∃W:Nat->Nat->St->Hp->Prop,(∃m,W 0 m Y H1)/\∀i m σ' H',W i m σ' H'->
 (J.stop i H'/\Q σ' H')\/(J.go i H'/\∃Nn:St->Hp->Prop,(∀Bg Bh,Nn Bg Bh->∃m',m'<m/\W (i+1) m' Bg Bh)/\∀x H2,J.Wd i H' x H2->g x σ' H2 λσ2 H3=>tt σ2 H3 λb H4=>if b=true then tu σ2 H4 Nn else Nn σ2 H4)
theorem Og(hc:X.calm=true)(hx:X.xe=λ_ _=>False)(hi:PI X tg iter wi)(hg:PG X tg g)(ht:jY X ifs tt)(he:PE X cO te)(hs:∀x,foldedSetIterable iter X.env x=pure x) :
  PU X (Bj cO t1 i1 tg iter f1 ifs scope pos (.ref D) X.env) (W0 wi g tt (qE D te)):=by
 intro L s Y H Q I h;have hi:=hi L s Y H _ I h;rw[hx]at hi;unfold Bj;refine aS (nE hi (λv s1 h1=>?_) λ_ _ z=>z)
 refine aS (AE ?_);rw[hs v];refine aS (d5 ?_);refine aS (lL (nE h1 (λitv s2 h2=>?_) λ_ _ z=>z))
 obtain⟨it,fp,tn,J,H2,rfl,I2,T,aN,f2,W,⟨m0,w0⟩,turn⟩:=h2;have stat:∀{H':Hp},(∀b∈fp,H' b=none)->∀b∈fp,jV X L H' b:=λhn b hb=>⟨hn b hb,(f2 b hb).2⟩
 have loop:codeAny (~~~2) X.A (.compLoop (.ListComp cO [⟨t1,i1,f1,0⟩,⟨tg,iter,ifs,0⟩] scope pos) 1 (.ref it) (.ref D) X.env) (λr s'=>match r with |.ok f=>∃σ' H',Inv X L σ' H' s'/\Q σ' H' |.error e=>False) s2:=by
  refine jZ (λ_ _ _ _ _ _ _=>⟨rfl,rfl⟩) (target:=tg) (iter:=iter) (ifs:=ifs) (em:=do let _ <- call (.builtin "list.append") [.ref D,<- eval cO X.env]) rfl (λn s'=>∃i σ' H',Inv X L σ' H' s'/\tn i s'.heap/\(∀b∈fp,H' b=none)/\W i n σ' H') ?_ m0 ⟨0,Y,H2,I2,aN,λb hb=>(f2 b hb).1,w0⟩
  rintro n s3 ⟨i,σ3,H3,I3,eK,Oc,w3⟩;rcases turn i n σ3 H3 w3 with ⟨stop,qn⟩ |⟨go,Nn,hN,step⟩
  .
   refine cz (T.done X rfl rfl rfl hc i L s3 σ3 H3 (λ_ _=>False) I3 (stat Oc) eK stop) λr s4 ⟨hr,I4⟩=>?_
   subst hr;exact⟨σ3,H3,I4,qn⟩
  .
   refine cz (T.item X rfl rfl rfl hc i L s3 σ3 H3 (λ_ _=>False) I3 (stat Oc) eK go) λr s4 ⟨u,hr,h4⟩=>?_
   subst hr;refine cz h4 λ_ s5 ⟨x,H5,I5,r5,y5,kT,Wi⟩=>?_
   have Wj:=I5.pinned (stat Wi) (T.obj _ _ kT);have again:∀{σ7:St}{H7:Hp}{s7:Shared},Inv X (L++kQ fp s5.heap) σ7 H7 s7->Nn σ7 H7->∃m,m<n/\∃i σ' H',Inv X L σ' H' s7/\tn i s7.heap/\(∀b∈fp,H' b=none)/\W i m σ' H':=λ{σ7 H7 s7} I7 n7=>by
    obtain⟨m',hm,w7⟩:=hN σ7 H7 n7;refine⟨m',hm,i+1,σ7,H7,I7.iC,T.keep _ _ _ kT λb hb o e=>(I7.pin (b,o) (i7 _ (i7 _ (dM hb e)))).1,λb hb=>?_,w7⟩
    obtain⟨o,e,d⟩:=T.obj _ _ kT b hb;exact (I7.pin (b,o) (i7 _ (i7 _ (dM hb e)))).2.1
   have hg:=hg _ s5 σ3 H5 x u _ Wj r5 (step x H5 y5);rw[hx]at hg;refine cz hg λ_ s6 ⟨σ6,H6,I6,q6⟩=>?_
   have ht:=ht _ s6 σ6 H6 _ I6 q6;rw[hx]at ht;refine cz ht λb s7 ⟨H7,I7,q7⟩=>?_
   cases b with
   |false=>
    rw[hU i8]at q7 ⊢
    exact again I7 q7
   |true=>
    rw[fN rfl]at q7 ⊢
    exact nE (xS he hx _ s7 σ6 H7 _ I7 q7) (λ_ s9 ⟨σ9,H9,I9,q9⟩=>again I9 q9) λ_ _ z=>z
 have start:=jx loop (T.self _ 0 _ _ _ aN loop);refine aS (wpAny_runOwn (codeAny_mono start λr s' hr=>?_))
 cases r with
 |error e=>exact hr.elim
 |ok f=>exact d5 hr
theorem vf:compTurn (.ListComp cO [⟨t1,i1,f1,0⟩,⟨tg,iter,ifs,0⟩] scope pos) 0 it acc env=sY (.ListComp cO [⟨t1,i1,f1,0⟩,⟨tg,iter,ifs,0⟩] scope pos) t1 i1 f1 0 it acc env (Bj cO t1 i1 tg iter f1 ifs scope pos acc env):=by
 show (standAt i1.pos >>= λ_=>pyNext it >>= λr=>_)=(standAt i1.pos >>= λ_=>pyNext it >>= λr=>_)
 congr 1;funext _;congr 1;funext r
 cases r with
 |none=>rfl
 |some v=>
  show (letOwnedTupleGo t1 it v >>= λ_=>assign t1 env v >>= λ_=>_ >>= λok=>_)=(letOwnedTupleGo t1 it v >>= λ_=>assign t1 env v >>= λ_=>_ >>= λok=>_)
  congr 1;funext _;congr 1;funext _;congr 1;funext ok
  cases ok with
  |false=>rfl
  |true=>unfold Bj;simp only[bind_assoc,yA];rfl
section
theorem EY{N':List Str}{k:Nat}{w1:TI}{w2:Bk->TI}{g1 g2:Bk->TG}{W2 W3:Bk->TT}{te:Bk->TE}(B:bR X.env.scope scope)(hc:X.calm=true)(hN:Names X.N N' scope k)(hi:PI X t1 i1 w1)
  (hin:∀b:Bk,(PG (X.blk N' scope b) t1 (g1 b)/\jY (X.blk N' scope b) f1 (W2 b))/\PI (X.blk N' scope b) tg iter (w2 b)/\PG (X.blk N' scope b) tg (g2 b)/\jY (X.blk N' scope b) ifs (W3 b)/\PE (X.blk N' scope b) cO (te b))
  (hs:∀x,foldedSetIterable i1 X.env x=pure x) (hs2:∀(b:Bk) x,foldedSetIterable iter (X.blk N' scope b).env x=pure x) :
  PE X (.ListComp cO [⟨t1,i1,f1,0⟩,⟨tg,iter,ifs,0⟩] scope pos) (qZ X k w1 g1 W2 λD b=>W0 (w2 b) (g2 b) (W3 b) (qE D (te b))):=by
 intro L s Y H Q I h;rw[eval_ListComp];refine gJ (use:=none) B hc hN hi (nL (rest:=[⟨tg,iter,ifs,0⟩]) (em:=λacc env=>Bj cO t1 i1 tg iter f1 ifs scope pos acc env) λ_ _ _=>vf) (λb D=>⟨(hin b).1.1,(hin b).1.2,Og hc rfl (hin b).2.1 (hin b).2.2.1 (hin b).2.2.2.1 (hin b).2.2.2.2 (hs2 b)⟩) hs I h λs' H' D C m I' f' hn q=>?_
 refine⟨m,hn,λh' sb=>⟨.ref D,H',?_,rfl,q⟩⟩
 obtain⟨f0,f1,f2,f3,f4,f5⟩:=f';exact I'.turned (t':=s'.toks) (λb o hb e=>(sb.2 b hb).trans e) f0 f1 f3 f4 f5
theorem Fb{N':List Str}{k:Nat}{w1:TI}{w2:Bk->TI}{g1 g2:Bk->TG}{W2 W3:Bk->TT}{te:Bk->TE}{i:Nat}{y:Str}{py bY:Pos}(B:bR X.env.scope scope)(hc:X.calm=true)(hN:Names X.N N' scope k)(hi:PI X t1 i1 w1)
  (hin:∀b:Bk,(PG (X.blk N' scope b) t1 (g1 b)/\jY (X.blk N' scope b) f1 (W2 b))/\PI (X.blk N' scope b) tg iter (w2 b)/\PG (X.blk N' scope b) tg (g2 b)/\jY (X.blk N' scope b) ifs (W3 b)/\PE (X.blk N' scope b) cO (te b))
  (Ez:X.N.Nodup) (hy:X.N[i]?=some y) (hl:X.env.scope.names.lookup y=some .local)
  (hsw:swapsWith (.ListComp cO [⟨t1,i1,f1,0⟩,⟨tg,iter,ifs,0⟩] scope pos) (some (.Name y py)) bY.line X.env=pure true)
  (hs:∀x,foldedSetIterable i1 X.env x=pure x) (hs2:∀(b:Bk) x,foldedSetIterable iter (X.blk N' scope b).env x=pure x) :
  PS X (.Assign [.Name y py] (.ListComp cO [⟨t1,i1,f1,0⟩,⟨tg,iter,ifs,0⟩] scope pos) bY) (JW (qZ X k w1 g1 W2 λD b=>W0 (w2 b) (g2 b) (W3 b) (qE D (te b))) (uX i)):=by
 intro L s Y H D0 I h;rw[exec_Assign_Name_used _ _ _ _ hsw];refine aS (AE (aS ?_));show wpAny _ X.A (do let _ <- comprehension (.ListComp cO [⟨t1,i1,f1,0⟩,⟨tg,iter,ifs,0⟩] scope pos) scope X.env _ (newList []) false (eval i1 X.env) (some (assign (.Name y py) X.env))) _ _ s
 refine aS (nE (gJ (use:=some (assign (.Name y py) X.env)) (Q:=λ_ s'=>SP X L D0 .next s') B hc hN hi (nL (rest:=[⟨tg,iter,ifs,0⟩]) (em:=λacc env=>Bj cO t1 i1 tg iter f1 ifs scope pos acc env) λ_ _ _=>vf) (λb D=>⟨(hin b).1.1,(hin b).1.2,Og hc rfl (hin b).2.1 (hin b).2.2.1 (hin b).2.2.2.1 (hin b).2.2.2.2 (hs2 b)⟩) hs I h λs' H' D C m I' f' hn q=>?_) (λ_ s' hq=>d5 (d5 hq)) λ_ _ e=>e)
 refine wpAny_assign_Name (kP I' Ez hy (.inl hl) (v:=.ref D) rfl (λs2 I2 hsb=>?_) (.inr hl))
 obtain⟨f0,f1,f2,f3,f4,f5⟩:=f';obtain⟨a,sb,ha⟩:=hsb;have nC:C≠a:=by
  rcases ha with e |e
  . rw[e];exact f1
  . exact oQ (f4 _ _ e)
 refine⟨m,hn.sameBut sb nC,λh' sb'=>⟨_,H',?_,q⟩⟩
 exact I2.turned (t':=s2.toks) (λb o hb e=>(sb'.2 b hb).trans e) f0 f1 f3 f4 f5
end
section
variable{X:Cx}{L: ~~~1}{Y:St}{H:Hp}{s:Shared}
abbrev Zw (X:Cx):=tupleKind (gX X.prog X.w)
theorem kX:∀{ks:List Key}{its:List Value},Vals (ks.map kV) its->PySem.ItemsAre (gX X.prog X.w) ks its
 | [],_,.nil=>.nil
 |.inl i::ks,_,.cons h r=>by obtain⟨t,rfl⟩:=h;exact .cons (uR _ _ _ _) (kX r)
 |.inr x::ks,_,.cons h r=>by obtain⟨t,rfl⟩:=h;exact .cons (uS _ _ _ _) (kX r)
theorem Inv.xT{a:Addr}{ks:List Key}(I: ~~~7)(h:fV X.K H a (ks.map kV)):(Zw X).is s.heap ks a:=by obtain⟨its,r,⟨o,e,c,n,d⟩,_⟩:=I.tuple h;exact⟨o,its.toArray,n,e,c,d,by simpa using kX r⟩
theorem jy{α β:Type}{F:α->β->Prop}:∀{l:List α}{m:List β},Paired F l m->∀b∈m,∃a∈l,F a b
 |_,_,.cons h r,b,hb=>(d6.mp hb).elim (λe=>⟨_,c8,e▸h⟩) λe=>let ⟨a,h1,h2⟩:=jy r b e;⟨a,bP _ h1,h2⟩
noncomputable def atK{α:Type}(l:List (List Key×α))(ks:List Key):Option α:=(l.find? λp=>decide (p.1=ks)).map (·.2)
theorem mC{F:List Key×V->List Key×Addr×Value->Prop}(hF:∀p q,F p q->p.1=q.1/\RelV p.2 q.2.2){ks:List Key}{v:V}:∀{l:List (List Key×V)}{m:List (List Key×Addr×Value)},Paired F l m->atK l ks=some v->∃p,atKey m ks=some p/\RelV v p.2
 | (k,x)::l,(k',a,u)::m,.cons h r,e=>by
  obtain⟨e1,e2⟩:=hF _ _ h;have e1:k=k':=e1;subst e1;unfold atK at e;unfold atKey;rw[List.find?_cons]at e ⊢
  by_cases hk:k=ks
  .
   rw[show decide (k=ks)=true from l7 hk]at e ⊢
   cases e;exact⟨(a,u),rfl,e2⟩
  .
   rw[show decide (k=ks)=false from pV hk]at e ⊢
   exact mC hF r e
theorem Inv.Oh{d:Addr}{eH:List (List Key×V)}(I: ~~~7)(h:H d=some (.dT eH)):∃xs,s.heap.DictOfH (Zw X) d xs/\Paired (λ(p:List Key×V) (q:List Key×Addr×Value)=>p.1=q.1/\H q.2.1=some (.tup (p.1.map kV))/\RelV p.2 q.2.2) eH xs/\eH.length<=sizeLine/\(d==sysModules)=false:=by
 obtain⟨hz,hs,xs,pr,o,es,ep,e1,e2,e3,e4,e5⟩:=(show d9 X.prog X.w H s.heap d (.dT eH)from I.hok d _ h);refine⟨xs,⟨o,es,ep,e1,e2,e3,e4,λx hx=>?_,e5⟩,pr,hz,hs⟩
 obtain⟨p,_,q1,q2,_⟩:=jy pr x hx;rw[<- q1];exact I.xT (.inl (.inl q2))
def rIxD(K:Frag):R2:=λx y H Q=>∃p a eH ks v,x=.ref p/\y=.ref a/\H p=some (.dT eH)/\fV K H a (ks.map kV)/\atK eH ks=some v/\Q v H
theorem Kr(hu:X.A.units+1<cLine):WM X (rIxD X.K):=by
 intro value slice L s Y H x y v u Q I rx ry h hs;obtain⟨p,a,eH,ks,z,rfl,rfl,hp,ha,he,q⟩:=h;cases rx;cases ry;obtain⟨xs,dh,pr,hz,hy⟩:=I.Oh hp;obtain⟨w,w1,w2⟩:=mC (λ_ _ h=>⟨h.1,h.2.2⟩) pr he
 have fin:EP X L Y Q w.2 { s with toks:=s.toks+(Zw X).draws ks}:=⟨z,H,I.tok _,w2,q⟩;exact subscriptTail_builtinR (x:=w.2) dh.typeIs slot_dict_getitem.lookup (wpAny_getItem_heap (Q:=λr s'=>r=w.2/\EP X L Y Q r s') (tupleKind_room_in1 hu) (I.xT ha) dh w1 ⟨rfl,fin⟩) hs
def QF(D:Addr)(tk tv:TE):TU:=λY H Q=>tk Y H λk H4=>tv Y H4 λv H5=>∃(eH:List (List Key×V)) (a:Addr) (ks:List Key),k=.ref a/\H5 D=some (.dT eH)/\H5 a=some (.tup (ks.map kV))/\ks∉eH.map (·.1)/\eH.length<sizeLine/\Q Y (upd H5 D (.dT (eH++[(ks,v)])))
noncomputable abbrev Oi (kx vx:Expr) (acc:Value) (env:Env):Sem Unit:=do
 let kv <- eval kx env
 let vv <- holding [kv] (eval vx env)
 standAt { kx.pos with endLine:=vx.pos.endLine,endCol:=vx.pos.endCol}
 match acc with
 |.ref D=>holding [kv,vv] (dictSet D kv vv)
 |_=>pure ()
theorem QG{D:Addr}{kx vx:Expr}{tk tv:TE}(hu:X.A.units<cLine)(hk:PE X kx tk)(hv:PE X vx tv)(hx:X.xe=λ_ _=>False):PU X (Oi kx vx (.ref D) X.env) (QF D tk tv):=by
 intro L s Y H Q I h;have hk:=hk L s Y H _ I h;rw[hx]at hk;refine aS (nE hk (λkv s4 ⟨k,H4,I4,r4,q4⟩=>?_) λ_ _ z=>z)
 have hv:=hv L s4 Y H4 _ I4 q4;rw[hx]at hv;refine aS (lL (nE hv (λvv s5 ⟨v,H5,I5,r5,eH,a,ks,e0,hD,ha,hn,hz,q⟩=>?_) λ_ _ z=>z))
 subst e0;cases r4;refine aS (AE (lL ?_));obtain⟨xs,dh,pr,_,hy⟩:=I5.Oh hD;have aL:eH.length=xs.length:=Paired.length pr;have hno:atKey xs ks=none:=by
  cases e:atKey xs ks with
  |none=>rfl
  |some p=>exfalso;obtain⟨x,x1,x2⟩:=B2.mp e;obtain⟨y,y1,y2,_⟩:=jy pr x (List.mem_of_find?_eq_some x1);have x3:=List.find?_some x1;exact hn (fR.mpr ⟨y,y1,y2.trans (l9 x3)⟩)
 refine wpAny_dictSet_heap (knd:=Zw X) (show X.A.units<cLine from hu) (I5.xT (.inl (.inl ha))) dh (λh' m' sb=>?_) ⋯
 rw[storedH_new hno]at m';obtain⟨o,es,ep,f1,f2,f3,f4,f5,f6⟩:=m';have ne:∀{b:Addr}{ys:List V},H5 b=some (.tup ys)->b≠D:=λe z=>by rw[z,hD]at e;cases e
 refine⟨Y,_,I5.write (o:=.dT (eH++[(ks,v)])) (by rw[hD];trivial) (.inl rfl) (λb u hb e=>(sb.2 b hb).trans e) ⟨o,f1⟩ ?_,q⟩
 refine⟨by rw[eC];exact hz,hy,xs++[(ks,a,vv)],?_,o,es,ep,f1,f2,f3,f4,f6⟩
 refine Paired.snoc (Paired.P1 pr λp q ⟨g1,g2,g3⟩=>⟨g1,by rw[aC (ne g2)];exact g2,g3⟩) ⟨rfl,by rw[aC (ne ha)];exact ha,r5⟩
end
section
variable{X:Cx}{tg iter kx vx:Expr}{ifs:List Expr}{scope:Scope}{pos:Pos}
theorem Ks:Ck X (.DictComp kx vx [⟨tg,iter,ifs,0⟩] scope pos) tg iter ifs [] newDict (.dT []) (Oi kx vx) where
 cls:=rfl
 und:=λ_ _ _ _ _ _ _=>⟨rfl,rfl⟩
 turn:=λit D env=>compTurn_dict kx vx tg iter ifs scope pos it D env
 new:=⟨_,rfl,λh=>nK h,λ_ _ _ e y=>⟨wP _,y,[],.nil,_,#[],0,e,⟨rfl,rfl,rfl⟩,rfl,rfl,yY⟩⟩
 start:=codeAny_compStart_dict
theorem Fc{N':List Str}{k:Nat}{wi:TI}{g:Bk->TG}{tt:Bk->TT}{tk tv:Bk->TE}(B:bR X.env.scope scope)(hc:X.calm=true)(hu:X.A.units<cLine)(hN:Names X.N N' scope k)(hi:PI X tg iter wi)
  (hin:∀b:Bk,PG (X.blk N' scope b) tg (g b)/\jY (X.blk N' scope b) ifs (tt b)/\PE (X.blk N' scope b) kx (tk b)/\PE (X.blk N' scope b) vx (tv b))
  (hs:∀x,foldedSetIterable iter X.env x=pure x:=by intro _;rfl):PE X (.DictComp kx vx [⟨tg,iter,ifs,0⟩] scope pos) (sZ (.dT []) X k wi g tt λD b=>QF D (tk b) (tv b)):=by
 intro L s Y H Q I h;rw[arm_eval_DictComp];refine gJ (use:=none) B hc hN hi Ks (λb D=>⟨(hin b).1,(hin b).2.1,QG hu (hin b).2.2.1 (hin b).2.2.2 rfl⟩) hs I h λs' H' D C m I' f' hn q=>?_
 refine⟨m,hn,λh' sb=>⟨.ref D,H',?_,rfl,q⟩⟩
 obtain⟨f0,f1,f2,f3,f4,f5⟩:=f';exact I'.turned (t':=s'.toks) (λb o hb e=>(sb.2 b hb).trans e) f0 f1 f3 f4 f5
end
end L2
namespace Ev
open L2
inductive D where
 |non |bl (b:Bool) |int (i:Int) |str (x:Str) |tup (l:List D) |lst (l:List D) |fix (l:List D) |emp |Dy (C:Addr) |vg (ks: ~~~5) (ds:List D)
 deriving Inhabited
inductive Slot where
 |no |dat (d:D) |own (l:List D)
 deriving Inhabited
inductive R where
 |dat (d:D) |new (l:List D) |var (i:Nat)
 deriving Inhabited
abbrev G:=List Slot
abbrev Sg:=L2.St
abbrev K0:Hp:=λ_=>none
def LstAt(M:List Addr)(H:Hp)(a:Addr)(xs:List V):Prop:=a∉M/\H a=some (.lst xs)
def mD(K:Frag)(M:List Addr)(H:Hp)(a:Addr)(xs:List V):Prop:=(a∉M/\∃o,H a=some (.Ds o (.lst xs)))\/cB K K0 a xs
def TupAt(K:Frag)(M:List Addr)(H:Hp)(a:Addr)(xs:List V):Prop:=(a∉M/\Rd H a (.tup xs))\/(fV K K0 a xs/\∃o,K.lookup a=some o/\o.dict=none)
theorem rd0(h:Rd K0 a u):False:=by rcases h with h |⟨o,h⟩ <;> symm
theorem mD.sq{K:Frag}{M:List Addr}{H:Hp}{a:Addr}{xs:List V}(h:mD K M H a xs):cB K H a xs:=by
 rcases h with ⟨_,o,h⟩ |h |h
 . exact .inl (.inr ⟨o,h⟩)
 . exact (rd0 h).elim
 . exact .inr h
theorem TupAt.sq{K:Frag}{M:List Addr}{H:Hp}{a:Addr}{xs:List V}(h:TupAt K M H a xs):fV K H a xs:=by
 rcases h with ⟨_,h⟩ |⟨h |h,_⟩
 . exact .inl h
 . exact (rd0 h).elim
 . exact .inr h
noncomputable abbrev ExnO(C a:Addr):HO:=.ext λh=>∃o,h.get? a=some o/\o.cls=.ref C/\PySem.W.notCls o=true/\o.dict=none
structure W4(K:Frag)(C:Addr):Prop where
 gga:PySem.W.findIn K (.ref C) "__getattribute__"=some (some (.builtin "BaseException.__getattribute__"))
 gat:PySem.W.findIn K (.ref C) "__getattr__"=some none
 bas:PySem.W.mroIn K C (.type "BaseException")=some true
 dct:PySem.W.hasDictIn K C=true
 cls:PySem.W.findIn K (.ref C) "__class__"=some (some (.builtin "object.__class__"))
 spc:PySem.W.specialIn K (.builtin "object.__class__") "__get__"=some (some (.builtin "getset_descriptor.__get__"))
 tks:PySem.W.takesIn K (.builtin "object.__class__")=some true
 mro:PySem.W.mroIn K C (.type "object")=some true
 kit:∀n∈["int", "bool", "str", "tuple", "list", "dict"],PySem.W.kitOne K (.ref C) (.type n)=some false
noncomputable abbrev Fd(ks: ~~~5)(vs:List V):HO:=.dT ((ks.map (List.map Sum.inl)).zip vs)
def W5:HO->Prop
 |.lst _ |.dT _=>True
 |_=>False
mutual
inductive Rep(K:Frag)(M:List Addr)(H:Hp):D->V->Prop
 |non:Rep K M H .non .non
 |bl (b:Bool):Rep K M H (.bl b) (.bl b)
 |int (i:Int):Rep K M H (.int i) (.int i)
 |str (x:Str):Rep K M H (.str x) (.str x)
 |tup {l:List D}{a:Addr}{xs:List V}:TupAt K M H a xs->aI K M H l xs->Rep K M H (.tup l) (.ref a)
 |lst {l:List D}{a:Addr}{xs:List V}:LstAt M H a xs->aI K M H l xs->Rep K M H (.lst l) (.ref a)
 |fix {l:List D}{a:Addr}{xs:List V}:mD K M H a xs->aI K M H l xs->Rep K M H (.fix l) (.ref a)
 |emp:a∉M->H a=some (.dK [])->Rep K M H .emp (.ref a)
 |Dy:W4 K C->a∉M->H a=some (ExnO C a)->Rep K M H (.Dy C) (.ref a)
 |vg {ks: ~~~5}{ds:List D}{a:Addr}{vs:List V}:a∉M->H a=some (Fd ks vs)->ks.length=vs.length->aI K M H ds vs->Rep K M H (.vg ks ds) (.ref a)
inductive aI(K:Frag)(M:List Addr)(H:Hp):List D->List V->Prop
 |nil:aI K M H [] []
 |cons {d:D}{ds:List D}{x:V}{xs:List V}:Rep K M H d x->aI K M H ds xs->aI K M H (d::ds) (x::xs)
end
def az(M:List Addr)(H:Hp)(M':List Addr)(H':Hp):Prop:=∀b o,H b=some o->b∉M->H' b=some o/\b∉M'
theorem az.rd(h:az M H M' H')(n:a∉M)(r:Rd H a u):a∉M'/\Rd H' a u:=by
 rcases r with r |⟨o,r⟩
 . exact⟨(h _ _ r n).2,.inl (h _ _ r n).1⟩
 . exact⟨(h _ _ r n).2,.inr ⟨o,(h _ _ r n).1⟩⟩
theorem Rep.stay{K:Frag}{M M':List Addr}{H H':Hp}(h:az M H M' H'){d:D}{v:V}(r:Rep K M H d v):Rep K M' H' d v:=by
 refine Rep.rec (motive_1:=λd v _=>Rep K M' H' d v) (motive_2:=λds vs _=>aI K M' H' ds vs) .non .bl .int .str (λt _ q=>?_) (λt _ q=>?_) (λt _ q=>?_) (λn r=>.emp (h _ _ r n).2 (h _ _ r n).1) (λx n r=>.Dy x (h _ _ r n).2 (h _ _ r n).1) (λn r l _ q=>.vg (h _ _ r n).2 (h _ _ r n).1 l q) .nil (λ_ _ a b=>.cons a b) r
 .
  rcases t with t |t
  . exact .tup (.inl (h.rd t.1 t.2)) q
  . exact .tup (.inr t) q
 . exact .lst ⟨(h _ _ t.2 t.1).2,(h _ _ t.2 t.1).1⟩ q
 .
  rcases t with ⟨n,o,r⟩ |t
  . exact .fix (.inl ⟨(h _ _ r n).2,o,(h _ _ r n).1⟩) q
  . exact .fix (.inr t) q
theorem aI.stay{K:Frag}{M M':List Addr}{H H':Hp}(h:az M H M' H'):∀{ds:List D}{vs:List V},aI K M H ds vs->aI K M' H' ds vs:=by
 intro ds
 induction ds with
 |nil=>intro vs q;cases q;exact .nil
 |cons d ds ih=>intro vs q;cases q with |cons a b=>exact .cons (a.stay h) (ih b)
theorem az.refl(M:List Addr)(H:Hp):az M H M H:=λ_ _ e n=>⟨e,n⟩
theorem az.trans(a:az M H M1 H1)(b:az M1 H1 M2 H2):az M H M2 H2:=λc o e n=>b c o (a c o e n).1 (a c o e n).2
theorem az.less(h:∀m∈M',m∈M):az M H M' H:=λ_ _ e n=>⟨e,λz=>n (h _ z)⟩
theorem az.laid(hp:H p=none):az M H M (upd H p o):=λb u e n=>⟨by rw[aC (aO e hp)];exact e,n⟩
theorem az.aV(hp:H p=none):az M H (p::M) (upd H p o):=λb u e n=>
 ⟨by rw[aC (aO e hp)];exact e,λz=>(d6.mp z).elim (λq=>aO e hp q) n⟩
theorem az.write(hp:p∈M):az M H M (upd H p o):=λb u e n=>⟨by rw[aC (λq=>n (by rw[q];exact hp))];exact e,n⟩
theorem aI.length{K:Frag}{M:List Addr}{H:Hp}{ds:List D}{vs:List V}(r:aI K M H ds vs):ds.length=vs.length:=by
 induction ds generalizing vs with
 |nil=>cases r;rfl
 |cons d ds ih=>cases r with |cons a b=>exact congrArg (· + 1) (ih b)
theorem aI.append{K:Frag}{M:List Addr}{H:Hp}{ds es:List D}{vs ws:List V}(r:aI K M H ds vs)(s:aI K M H es ws):aI K M H (ds++es) (vs++ws):=by
 induction ds generalizing vs with
 |nil=>cases r;exact s
 |cons d ds ih=>cases r with |cons a b=>exact .cons a (ih b)
theorem aI.get{K:Frag}{M:List Addr}{H:Hp}{ds:List D}{vs:List V}{i:Nat}{d:D}(r:aI K M H ds vs)(e:ds[i]?=some d):∃v,vs[i]?=some v/\Rep K M H d v:=by
 induction ds generalizing vs i with
 |nil=>exact nomatch (show none=some d from e)
 |cons d' ds ih=>cases r with |cons a b=>cases i with
  |zero=>cases (show some d'=some d from e);exact⟨_,rfl,a⟩
  |succ i=>obtain⟨v,h⟩:=ih (i:=i) b e;exact⟨v,h⟩
theorem aI.set{K:Frag}{M:List Addr}{H:Hp}{d:D}{v:V}(r:Rep K M H d v){ds:List D}{vs:List V}(i:Nat)(q:aI K M H ds vs):aI K M H (ds.set i d) (vs.set i v):=by
 induction ds generalizing vs i with
 |nil=>cases q;exact .nil
 |cons d' ds ih=>cases q with |cons a b=>cases i with
  |zero=>exact .cons r b
  |succ i=>exact .cons a (ih i b)
theorem aI.take{K:Frag}{M:List Addr}{H:Hp}{ds:List D}{vs:List V}(n:Nat)(q:aI K M H ds vs):aI K M H (ds.take n) (vs.take n):=by
 induction ds generalizing vs n with
 |nil=>cases q;rw[List.take_nil,List.take_nil];exact .nil
 |cons d' ds ih=>cases q with |cons a b=>cases n with
  |zero=>exact .nil
  |succ n=>exact .cons a (ih n b)
theorem aI.drop{K:Frag}{M:List Addr}{H:Hp}{ds:List D}{vs:List V}(n:Nat)(q:aI K M H ds vs):aI K M H (ds.drop n) (vs.drop n):=by
 induction ds generalizing vs n with
 |nil=>cases q;rw[List.drop_nil,List.drop_nil];exact .nil
 |cons d' ds ih=>cases q with |cons a b=>cases n with
  |zero=>exact .cons a b
  |succ n=>exact ih n b
theorem aI.reverse{K:Frag}{M:List Addr}{H:Hp}{ds:List D}{vs:List V}(q:aI K M H ds vs):aI K M H ds.reverse vs.reverse:=by
 induction ds generalizing vs with
 |nil=>cases q;exact .nil
 |cons d ds ih=>cases q with |cons a b=>rw[B7,B7];exact (ih b).append (.cons a .nil)
inductive Slots(K:Frag)(M:List Addr)(H:Hp):G->Sg->List Addr->Prop
 |nil:Slots K M H [] [] []
 |no:Slots K M H g Y As->Slots K M H (.no::g) (v::Y) As
 |dat {g:G}{Y:Sg}{As:List Addr}{v:V}{d:D}:Rep K M H d v->Slots K M H g Y As->Slots K M H (.dat d::g) (some v::Y) As
 |own {g:G}{Y:Sg}{As:List Addr}{a:Addr}{xs:List V}{ds:List D}:H a=some (.lst xs)->aI K M H ds xs->Slots K M H g Y As->Slots K M H (.own ds::g) (some (.ref a)::Y) (a::As)
theorem Slots.stay{K:Frag}{M M':List Addr}{H H':Hp}(h:az M H M' H'){g:G}{Y:Sg}{As:List Addr}(k:∀a∈As,∀o,H a=some o->H' a=some o)(q:Slots K M H g Y As):Slots K M' H' g Y As:=by
 induction q with
 |nil=>exact .nil
 |no q ih=>exact .no (ih k)
 |dat r q ih=>exact .dat (r.stay h) (ih k)
 |own e r q ih=>exact .own (k _ c8 _ e) (r.stay h) (ih λa ha=>k a (bP _ ha))
def gk(K:Frag):List (Addr×Str):=K.filterMap λp=>match p.2.data with
 |.fields vs=>(match vs.toList with
  |_::.str n _::_=>if (n==("law":Str))=true then (match vs.toList[11]? with
   |some (Value.ref q)=>if (K.lookup q).isNone=true then some (q,("law.<locals>.<lambda>":Str))else none
   |_=>none)else none
  |_=>none)
 |_=>none
structure Z where
 K:Frag
 H0:Hp
 M0:List Addr
 lent:List (Nat×Addr)
 T:List (Addr×Str)
abbrev LamC(q:Str)(c:Addr):HO:=.ext λh=>h.CodeRec (.ref c) q
def TabOk(H:Hp)(p:Addr×Str):Prop:=∃ps:Array Value,H p.1=some (.Dt ps)/\TriplesOk ps.toList/\∀pos cv,codeAmong pos ps.toList=some cv->∃c,cv=.ref c/\H c=some (LamC p.2 c)
noncomputable abbrev Z.TA(z:Z):List Addr:=z.T.map (·.1)
theorem TabOk.keep{H H':Hp}{p:Addr×Str}(t:TabOk H p)(k:∀b o,H b=some o->¬ W5 o->H' b=some o):TabOk H' p:=by obtain⟨ps,h1,h2,h3⟩:=t;exact⟨ps,k _ _ h1 id,h2,λpos cv e=>let ⟨c,e1,e2⟩:=h3 pos cv e;⟨c,e1,k _ _ e2 id⟩⟩
noncomputable abbrev Z.B(z:Z):List Addr:=z.lent.map (·.2)
abbrev Z.bor(z:Z):List Nat:=z.lent.map (·.1)
structure S(z:Z)(g:G)(Y:Sg)(As M:List Addr)(H:Hp):Prop where
 sl:Slots z.K M H g Y As
 nd:As.Nodup
 sub:∀a∈As,a∈M
 own:∀(i:Nat) (a:Addr) (l:List D),g[i]?=some (.own l)->Y[i]?=some (some (.ref a))->(i∈z.bor/\a∈z.B)\/z.H0 a=none
 live:∀m∈M,(∃o,H m=some o/\W5 o)\/m∈z.TA
 keep:∀b o,z.H0 b=some o->b∉z.B->b∉z.TA->H b=some o
 kY:∀m∈z.M0,m∈M
 m0:∀m∈z.M0,z.H0 m≠none
 bm:∀b∈z.B,b∈z.M0
 jz:∀p∈z.lent,Y[p.1]?=some (some (.ref p.2))/\∃l,g[p.1]?=some (.own l)
 tab:∀p∈z.T,TabOk H p
 tm:∀p∈z.T,p.1∈z.M0
 tt:z.T=gk z.K
section
variable{g:G}
theorem S.fresh(s:S z g Y As M H)(hp:H p=none):p∉M:=λhm=>by
 rcases s.live p hm with ⟨o,e,_⟩ |e
 . rw[hp]at e;cases e
 . obtain⟨q,hq,rfl⟩:=fR.mp e;obtain⟨ps,h1,_⟩:=s.tab q hq;rw[hp]at h1;cases h1
theorem S.W6(s:S z g Y As M H)(hp:H p=some (.lst xs)):p∉z.TA:=λe=>by
 obtain⟨q,hq,rfl⟩:=fR.mp e;obtain⟨ps,h1,_⟩:=s.tab q hq;rw[hp]at h1;cases h1
theorem S.cH(s:S z g Y As M H)(hp:H p=none):z.H0 p=none:=by
 cases e:z.H0 p with
 |none=>rfl
 |some o=>
  by_cases hb:p∈z.B
  . exact absurd (s.kY _ (s.bm _ hb)) (s.fresh hp)
  .
   by_cases ht:p∈z.TA
   . obtain⟨q,hq,rfl⟩:=fR.mp ht;exact absurd (s.kY _ (s.tm q hq)) (s.fresh hp)
   . rw[s.keep p o e hb ht]at hp;cases hp
theorem S.laid(s:S z g Y As M H){p:Addr}{o:HO}(hp:H p=none):S z g Y As M (upd H p o) where
 sl:=s.sl.stay (az.laid hp) λa _ u e=>by rw[aC (aO e hp)];exact e
 nd:=s.nd
 sub:=s.sub
 own:=s.own
 live:=λm hm=>by
  rcases s.live m hm with ⟨o,e,gr⟩ |e
  . exact .inl ⟨o,by rw[aC (aO e hp)];exact e,gr⟩
  . exact .inr e
 keep:=λb u e hb ht=>by rw[aC (aO (s.keep b u e hb ht) hp)];exact s.keep b u e hb ht
 kY:=s.kY
 m0:=s.m0
 bm:=s.bm
 jz:=s.jz
 tab:=λp h=>(s.tab p h).keep λb u e _=>by rw[aC (aO e hp)];exact e
 tm:=s.tm
 tt:=s.tt
theorem S.W7(s:S z g Y As M H){p:Addr}{u0:HO}(gu:W5 u0)(hp:H p=none):S z g Y As (p::M) (upd H p u0) where
 sl:=s.sl.stay (az.aV hp) λa _ u e=>by rw[aC (aO e hp)];exact e
 nd:=s.nd
 sub:=λa ha=>bP _ (s.sub a ha)
 own:=s.own
 live:=λm hm=>by
  rcases d6.mp hm with rfl |hm
  . exact .inl ⟨_,aG,gu⟩
  .
   rcases s.live m hm with ⟨o,e,gr⟩ |e
   . exact .inl ⟨o,by rw[aC (aO e hp)];exact e,gr⟩
   . exact .inr e
 keep:=λb u e hb ht=>by rw[aC (aO (s.keep b u e hb ht) hp)];exact s.keep b u e hb ht
 kY:=λm hm=>bP _ (s.kY m hm)
 m0:=s.m0
 bm:=s.bm
 jz:=s.jz
 tab:=λp h=>(s.tab p h).keep λb u e _=>by rw[aC (aO e hp)];exact e
 tm:=s.tm
 tt:=s.tt
theorem S.aV(s:S z g Y As M H){p:Addr}{xs:List V}(hp:H p=none):S z g Y As (p::M) (upd H p (.lst xs)):=s.W7 trivial hp
theorem S.QH(s:S z g Y As M H){a:Addr}{u0 u1:HO}(hm:a∈M)(hA:a∉As)(h0:z.H0 a=none)(h:H a=some u0)(g0:W5 u0)(g1:W5 u1):S z g Y As M (upd H a u1) where
 sl:=s.sl.stay (az.write hm) λb hb u e=>by rw[aC (show b≠a from λq=>hA (by rw[<- q];exact hb))];exact e
 nd:=s.nd
 sub:=s.sub
 own:=s.own
 live:=λm hm=>by
  by_cases e:m=a
  . subst e;exact .inl ⟨_,aG,g1⟩
  .
   rcases s.live m hm with ⟨o,q,gr⟩ |q
   . exact .inl ⟨o,by rw[aC e];exact q,gr⟩
   . exact .inr q
 keep:=λb o e hb ht=>by rw[aC (λq=>by rw[q,h0]at e;cases e)];exact s.keep b o e hb ht
 kY:=s.kY
 m0:=s.m0
 bm:=s.bm
 jz:=s.jz
 tab:=λp hp=>(s.tab p hp).keep λb o e n=>by rw[aC (λq=>by rw[q,h]at e;cases e;exact n g0)];exact e
 tm:=s.tm
 tt:=s.tt
theorem S.drop(s:S z g Y As M H)(h0:z.H0 p=none)(hA:p∉As):S z g Y As (M.filter λm=>decide (m≠p)) H where
 sl:=s.sl.stay (az.less λm hm=>(i9.mp hm).1) λ_ _ _ e=>e
 nd:=s.nd
 sub:=λa ha=>i9.mpr ⟨s.sub a ha,by have:a≠p:=λe=>hA (e▸ha);simpa using this⟩
 own:=s.own
 live:=λm hm=>s.live m (i9.mp hm).1
 keep:=s.keep
 kY:=λm hm=>i9.mpr ⟨s.kY m hm,by have:m≠p:=λe=>s.m0 m hm (e▸h0);simpa using this⟩
 m0:=s.m0
 bm:=s.bm
 jz:=s.jz
 tab:=s.tab
 tm:=s.tm
 tt:=s.tt
end
def fX(z:Z)(g:G)(Y:Sg)(As M:List Addr)(H:Hp):R->V->Prop
 |.dat d,v=>Rep z.K M H d v
 |.new l,v=>∃a xs,v=.ref a/\a∈M/\a∉As/\z.H0 a=none/\H a=some (.lst xs)/\aI z.K M H l xs
 |.var i,v=>∃l,g[i]?=some (.own l)/\Y[i]?=some (some v)
inductive Pk(K:Frag)(M:List Addr)(H:Hp):D->V->Prop
 |of:Rep K M H d v->Pk K M H d v
 |lst {l:List D}{a:Addr}{xs:List V}:H a=some (.lst xs)->aI K M H l xs->Pk K M H (.lst l) (.ref a)
theorem Pk.list{K:Frag}{M:List Addr}{H:Hp}{l:List D}{v:V}(h:Pk K M H (.lst l) v):∃a xs,v=.ref a/\H a=some (.lst xs)/\aI K M H l xs:=by
 cases h with
 |of r=>cases r with |lst h1 h2=>exact⟨_,_,rfl,h1.2,h2⟩
 |lst h1 h2=>exact⟨_,_,rfl,h1,h2⟩
theorem Slots.at{K:Frag}{M:List Addr}{H:Hp}{g:G}{Y:Sg}{As:List Addr}{i:Nat}{l:List D}(q:Slots K M H g Y As)(e:g[i]?=some (.own l)):∃a xs,Y[i]?=some (some (.ref a))/\a∈As/\H a=some (.lst xs)/\aI K M H l xs:=by
 induction q generalizing i with
 |nil=>exact nomatch (show none=some (Slot.own l)from e)
 |no q ih=>cases i with
  |zero=>exact nomatch (show some Slot.no=some (Slot.own l)from e)
  |succ i=>exact ih e
 |dat r q ih=>cases i with
  |zero=>exact nomatch (show some (Slot.dat _)=some (Slot.own l)from e)
  |succ i=>exact ih e
 |own h r q ih=>cases i with
  |zero=>cases (show some (Slot.own _)=some (Slot.own l)from e);exact⟨_,_,rfl,c8,h,r⟩
  |succ i=>obtain⟨a,xs,h1,h2,h3⟩:=ih e;exact⟨a,xs,h1,bP _ h2,h3⟩
theorem Slots.oG{K:Frag}{M:List Addr}{H:Hp}{g:G}{Y:Sg}{As:List Addr}{i:Nat}{d:D}(q:Slots K M H g Y As)(e:g[i]?=some (.dat d)):∃v,Y[i]?=some (some v)/\Rep K M H d v:=by
 induction q generalizing i with
 |nil=>exact nomatch (show none=some (Slot.dat d)from e)
 |no q ih=>cases i with
  |zero=>exact nomatch (show some Slot.no=some (Slot.dat d)from e)
  |succ i=>exact ih e
 |dat r q ih=>cases i with
  |zero=>cases (show some (Slot.dat _)=some (Slot.dat d)from e);exact⟨_,rfl,r⟩
  |succ i=>exact ih e
 |own h r q ih=>cases i with
  |zero=>exact nomatch (show some (Slot.own _)=some (Slot.dat d)from e)
  |succ i=>exact ih e
theorem Slots.length{K:Frag}{M:List Addr}{H:Hp}{g:G}{Y:Sg}{As:List Addr}(q:Slots K M H g Y As):g.length=Y.length:=by
 induction q with
 |nil=>rfl
 |no q ih=>exact congrArg (· + 1) ih
 |dat r q ih=>exact congrArg (· + 1) ih
 |own h r q ih=>exact congrArg (· + 1) ih
theorem Slots.kZ{K:Frag}{M:List Addr}{H:Hp}{d:D}{v:V}(r:Rep K M H d v){g:G}{Y:Sg}{As:List Addr}(i:Nat)(q:Slots K M H g Y As):∃aF,Slots K M H (g.set i (.dat d)) (Y.set i (some v)) aF/\aF.Sublist As:=by
 induction q generalizing i with
 |nil=>exact⟨[],.nil,.slnil⟩
 |no q ih=>cases i with
  |zero=>exact⟨_,.dat r q,y7 _⟩
  |succ i=>obtain⟨aF,h1,h2⟩:=ih i;exact⟨aF,.no h1,h2⟩
 |dat r' q ih=>cases i with
  |zero=>exact⟨_,.dat r q,y7 _⟩
  |succ i=>obtain⟨aF,h1,h2⟩:=ih i;exact⟨aF,.dat r' h1,h2⟩
 |own e r' q ih=>cases i with
  |zero=>exact⟨_,.dat r q,List.sublist_cons_self _ _⟩
  |succ i=>obtain⟨aF,h1,h2⟩:=ih i;exact⟨_::aF,.own e r' h1,h2.cons₂ _⟩
theorem Slots.freeze{K:Frag}{M M':List Addr}{H:Hp}(hM:∀m∈M',m∈M){g:G}{Y:Sg}{As:List Addr}{i:Nat}{l:List D}{a:Addr}(q:Slots K M H g Y As)(e:g[i]?=some (.own l))(e2:Y[i]?=some (some (.ref a)))(na:a∉M')(nd:As.Nodup) :
  ∃aF,Slots K M' H (g.set i (.dat (.lst l))) Y aF/\aF.Sublist As/\a∉aF:=by
 induction q generalizing i with
 |nil=>exact nomatch (show none=some (Slot.own l)from e)
 |no q ih=>cases i with
  |zero=>exact nomatch (show some Slot.no=some (Slot.own l)from e)
  |succ i=>obtain⟨aF,h1,h2,h3⟩:=ih e e2 nd;exact⟨aF,.no h1,h2,h3⟩
 |dat r q ih=>cases i with
  |zero=>exact nomatch (show some (Slot.dat _)=some (Slot.own l)from e)
  |succ i=>obtain⟨aF,h1,h2,h3⟩:=ih e e2 nd;exact⟨aF,.dat (r.stay (az.less hM)) h1,h2,h3⟩
 |@own g Y As b xs ds h r q ih=>cases i with
  |zero=>
   cases (show some (Slot.own _)=some (Slot.own l)from e)
   cases (show some (some (V.ref b))=some (some (V.ref a))from e2)
   exact⟨_,.dat (.lst ⟨na,h⟩ (r.stay (az.less hM))) (q.stay (az.less hM) λ_ _ _ e=>e),List.sublist_cons_self _ _,(hV.mp nd).1⟩
  |succ i=>
   obtain⟨aF,h1,h2,h3⟩:=ih e e2 (hV.mp nd).2;refine⟨b::aF,.own h (r.stay (az.less hM)) h1,h2.cons₂ _,λhm=>?_⟩
   rcases d6.mp hm with z |z
   .
    obtain⟨c,xs,z1,z2,_⟩:=q.at (i:=i) e;cases (show some (some (V.ref c))=some (some (V.ref a))from z1.symm.trans e2)
    exact (hV.mp nd).1 (by rw[<- z];exact z2)
   . exact h3 z
theorem Slots.change{K:Frag}{M:List Addr}{H H':Hp}{l':List D}{a:Addr}{xs':List V}(st:az M H M H')(ha:H' a=some (.lst xs'))(r':aI K M H' l' xs'){g:G}{Y:Sg}{As:List Addr}{i:Nat}{l:List D}(q:Slots K M H g Y As)(e:g[i]?=some (.own l))(e2:Y[i]?=some (some (.ref a)))(nd:As.Nodup)
  (k:∀b∈As,b≠a->∀o,H b=some o->H' b=some o):Slots K M H' (g.set i (.own l')) Y As:=by
 induction q generalizing i with
 |nil=>exact nomatch (show none=some (Slot.own l)from e)
 |no q ih=>cases i with
  |zero=>exact nomatch (show some Slot.no=some (Slot.own l)from e)
  |succ i=>exact .no (ih e e2 nd k)
 |dat r q ih=>cases i with
  |zero=>exact nomatch (show some (Slot.dat _)=some (Slot.own l)from e)
  |succ i=>exact .dat (r.stay st) (ih e e2 nd k)
 |@own g Y As b xs ds h r q ih=>cases i with
  |zero=>
   cases (show some (some (V.ref b))=some (some (V.ref a))from e2)
   exact .own ha r' (q.stay st λc hc o e=>k c (bP _ hc) (λz=>(hV.mp nd).1 (by rw[<- z];exact hc)) o e)
  |succ i=>
   refine .own (k b c8 (λz=>?_) _ h) (r.stay st) (ih e e2 (hV.mp nd).2 λc hc=>k c (bP _ hc))
   obtain⟨c,xs,z1,z2,_⟩:=q.at (i:=i) e;cases (show some (some (V.ref c))=some (some (V.ref a))from z1.symm.trans e2)
   exact (hV.mp nd).1 (by rw[z];exact z2)
section
variable{g:G}
theorem gK(h:(g.set i (.dat d))[j]?=some (.own l)):g[j]?=some (.own l)/\j≠i:=by
 by_cases e:i=j
 .
  subst e;by_cases hi:i<g.length
  . rw[hZ hi]at h;symm
  . rw[oT.mpr (by rw[xI];lia)]at h;symm
 . rw[gL e]at h;exact⟨h,oQ e⟩
theorem S.freeze(s:S z g Y As M H){i:Nat}{l:List D}(hg:g[i]?=some (.own l))(hb:i∉z.bor):∃aF M',S z (g.set i (.dat (.lst l))) Y aF M' H/\az M H M' H:=by
 obtain⟨a,xs,e1,e2,e3,e4⟩:=s.sl.at hg;have h0:z.H0 a=none:=(s.own i a l hg e1).elim (λq=>absurd q.1 hb) id
 have hM:∀m∈(M.filter λm=>decide (m≠a)),m∈M:=λm hm=>(i9.mp hm).1
 have na:a∉(M.filter λm=>decide (m≠a)):=λhm=>by
  have:=(i9.mp hm).2;simp at this
 obtain⟨aF,q1,q2,q3⟩:=s.sl.freeze hM hg e1 na s.nd;refine⟨aF,_,⟨q1,s.nd.sublist q2,λb hb=>i9.mpr ⟨s.sub b (q2.subset hb),?_⟩,λj b l' h1 h2=>s.own j b l' (gK h1).1 h2,λm hm=>s.live m (hM m hm),s.keep,λm hm=>i9.mpr ⟨s.kY m hm,?_⟩,s.m0,s.bm,λp hp=>⟨(s.jz p hp).1,?_⟩,s.tab,s.tm,s.tt⟩,az.less hM⟩
 rotate_left 2
 .
  have:i≠p.1:=λe=>hb (by rw[e];exact wS (f:=(·.1)) hp)
  rw[gL this];exact (s.jz p hp).2
 .
  have:b≠a:=λe=>q3 (e▸hb)
  simpa using this
 .
  have:m≠a:=λe=>s.m0 m hm (e▸h0)
  simpa using this
theorem S.write(s:S z g Y As M H){i:Nat}{l l':List D}{a:Addr}{xs':List V}(hg:g[i]?=some (.own l))(e1:Y[i]?=some (some (.ref a)))(r:aI z.K M H l' xs'):S z (g.set i (.own l')) Y As M (upd H a (.lst xs'))/\az M H M (upd H a (.lst xs')):=by
 obtain⟨b,xs,e2,e3,e4,e5⟩:=s.sl.at hg;rw[e1]at e2;injection e2 with e2;injection e2 with e2;injection e2 with e2;subst e2;have st:az M H M (upd H a (.lst xs')):=az.write (s.sub a e3);refine⟨⟨s.sl.change st aG (r.stay st) hg e1 s.nd (λb _ ne o e=>by rw[aC ne];exact e),s.nd,s.sub,λj b l2 h1 h2=>?_,λm hm=>?_,λb o e hb ht=>?_,s.kY,s.m0,s.bm,λp hp=>⟨(s.jz p hp).1,?_⟩,λp h=>(s.tab p h).keep λb u e nl=>?_,s.tm,s.tt⟩,st⟩
 rotate_left 3
 .
  by_cases hj:i=p.1
  . rw[<- hj];exact⟨l',hZ (dA.mp hg).1⟩
  . rw[gL hj];exact (s.jz p hp).2
 .
  have:b≠a:=λz2=>by subst z2;rw[e4]at e;cases e;exact nl trivial
  rw[aC this];exact e
 .
  by_cases hj:i=j
  . subst hj;exact s.own i b l hg h2
  . rw[gL hj]at h1;exact s.own j b l2 h1 h2
 .
  by_cases hm2:m=a
  . subst hm2;exact .inl ⟨_,aG,trivial⟩
  .
   rcases s.live m hm with ⟨o,e,gr⟩ |e
   . exact .inl ⟨o,by rw[aC hm2];exact e,gr⟩
   . exact .inr e
 .
  have q:=s.keep b o e hb ht;have:b≠a:=λz2=>by
   subst z2;rcases s.own i b l hg e1 with w |w
   . exact hb w.2
   . rw[w]at e;cases e
  rw[aC this];exact q
theorem S.kZ(s:S z g Y As M H)(hb:i∉z.bor)(r:Rep z.K M H d v):∃aF,S z (g.set i (.dat d)) (Y.set i (some v)) aF M H:=by
 obtain⟨aF,h1,h2⟩:=s.sl.kZ r i;refine⟨aF,h1,s.nd.sublist h2,λa ha=>s.sub a (h2.subset ha),λj b l h3 h4=>?_,s.live,s.keep,s.kY,s.m0,s.bm,λp hp=>?_,s.tab,s.tm,s.tt⟩
 rotate_left
 .
  have:i≠p.1:=λe=>hb (by rw[e];exact wS (f:=(·.1)) hp)
  rw[gL this,gL this];exact s.jz p hp
 obtain⟨h5,h6⟩:=gK h3;rw[gL (oQ h6)]at h4;exact s.own j b l h5 h4
theorem Slots.oH{K:Frag}{a:Addr}{xs:List V}{l:List D}(h:H a=some (.lst xs))(r:aI K M H l xs){g:G}{Y:Sg}{As:List Addr}(i:Nat)(q:Slots K M H g Y As)(hi:i<g.length):∃aF,Slots K M H (g.set i (.own l)) (Y.set i (some (.ref a))) aF/\(∀b∈aF,b=a\/b∈As)/\(As.Nodup->a∉As->aF.Nodup):=by
 induction q generalizing i with
 |nil=>exact absurd hi (A6 _)
 |no q ih=>cases i with
  |zero=>exact⟨_,.own h r q,λb hb=>d6.mp hb,λnd na=>hV.mpr ⟨na,nd⟩⟩
  |succ i=>obtain⟨aF,h1,h2,h3⟩:=ih i (AT hi);exact⟨aF,.no h1,h2,h3⟩
 |dat r' q ih=>cases i with
  |zero=>exact⟨_,.own h r q,λb hb=>d6.mp hb,λnd na=>hV.mpr ⟨na,nd⟩⟩
  |succ i=>obtain⟨aF,h1,h2,h3⟩:=ih i (AT hi);exact⟨aF,.dat r' h1,h2,h3⟩
 |@own g Y As c ys ds e r' q ih=>cases i with
  |zero=>exact⟨_,.own h r q,λb hb=>(d6.mp hb).imp id (bP _),λnd na=>hV.mpr ⟨λz=>na (bP _ z),(hV.mp nd).2⟩⟩
  |succ i=>obtain⟨aF,h1,h2,h3⟩:=ih i (AT hi);exact⟨c::aF,.own e r' h1,λb hb=>(d6.mp hb).elim (λz=>.inr (z▸c8)) λz=>(h2 b z).imp id (bP _),λnd na=>hV.mpr ⟨λz=>(h2 c z).elim (λw=>na (w▸c8)) (hV.mp nd).1,h3 (hV.mp nd).2 λw=>na (bP _ w)⟩⟩
theorem S.oH(s:S z g Y As M H){i:Nat}{l:List D}{a:Addr}{xs:List V}(hb:i∉z.bor)(hi:i<g.length)(hm:a∈M)(hA:a∉As)(h0:z.H0 a=none)(h:H a=some (.lst xs))(r:aI z.K M H l xs):∃aF,S z (g.set i (.own l)) (Y.set i (some (.ref a))) aF M H:=by
 obtain⟨aF,h1,h2,h3⟩:=s.sl.oH h r i hi;refine⟨aF,h1,h3 s.nd hA,λb hb=>(h2 b hb).elim (λe=>e▸hm) (s.sub b),λj b l2 h4 h5=>?_,s.live,s.keep,s.kY,s.m0,s.bm,λp hp=>?_,s.tab,s.tm,s.tt⟩
 rotate_left
 .
  have:i≠p.1:=λe=>hb (by rw[e];exact wS (f:=(·.1)) hp)
  rw[gL this,gL this];exact s.jz p hp
 by_cases hj:i=j
 .
  subst hj;rw[hZ (by rw[<- s.sl.length];exact hi)]at h5
  injection h5 with h5;injection h5 with h5;injection h5 with h5;subst h5;exact .inr h0
 . rw[gL hj]at h4 h5;exact s.own j b l2 h4 h5
end
abbrev Kn (z:Z) (g':G) (Y:Sg) (M:List Addr) (H:Hp) (r:R) (Q:VK):Prop:=
 ∀v H' aF M',S z g' Y aF M' H'->az M H M' H'->fX z g' Y aF M' H' r v->Q v H'
def aA(X:Cx)(z:Z)(e:Expr)(g:G)(r:R)(g':G):Prop:=
 ∃t,PE X e t/\∀Y As M H Q,S z g Y As M H->Kn z g' Y M H r Q->t Y H Q
def dI(X:Cx)(z:Z)(e:Expr)(g:G)(b:Bool)(g':G):Prop:=
 ∃t,PT X e t/\∀Y As M H (Q:Bool->Hp->Prop),S z g Y As M H->(∀H' aF M',S z g' Y aF M' H'->az M H M' H'->Q b H')->t Y H Q
def mF(X:Cx)(z:Z)(f:Value->Value->Sem Value)(d1 d2:D)(res:R):Prop:=
 ∃r:R2,kN X f r/\∀g Y As M H v1 v2 Q,S z g Y As M H->Pk z.K M H d1 v1->Pk z.K M H d2 v2->Kn z g Y M H res Q->r v1 v2 H Q
def Vf(X:Cx)(z:Z)(d1 d2:D)(res:R):Prop:=
 ∃r:R2,WM X r/\∀g Y As M H v1 v2 Q,S z g Y As M H->Pk z.K M H d1 v1->Pk z.K M H d2 v2->Kn z g Y M H res Q->r v1 v2 H Q
def UnD(X:Cx)(z:Z)(f:Value->Sem Value)(d:D)(res:R):Prop:=
 ∃r:V->Hp->VK->Prop,Zr X f r/\∀g Y As M H v Q,S z g Y As M H->Pk z.K M H d v->Kn z g Y M H res Q->r v H Q
noncomputable def pk:R->G->Option D
 |.dat d,_=>some d
 |.new _,_=>none
 |.var i,g=>match g[i]? with |some (.own l)=>some (.lst l) |some (.dat (.lst l))=>some (.lst l) |_=>none
section
theorem S.pk(s:S z g2 Y As M2 H2)(st:az M1 H1 M2 H2)(q:fX z g1 Y aY M1 H1 r v)(h:pk r g2=some d):Pk z.K M2 H2 d v:=by
 cases r with
 |dat d'=>have e:d'=d:=rV h;subst e;exact .of (Rep.stay st q)
 |new l=>symm
 |var i=>
  obtain⟨l,h1,h2⟩:=q;unfold Ev.pk at h;dsimp only at h;left
  . rename_i l' hg;have e:=rV h;subst e;obtain⟨a,xs,e1,e2,e3,e4⟩:=s.sl.at hg;rw[h2]at e1;injection e1 with e1;injection e1 with e1;subst e1;exact .lst e3 e4
  . rename_i l' hg;have e:=rV h;subst e;obtain⟨w,e1,e2⟩:=s.sl.oG hg;rw[h2]at e1;injection e1 with e1;injection e1 with e1;exact .of (e1▸e2)
  . symm
theorem QJ{i j}:aA X z (.Constant (.int i) j pos) g ‹i› g:=⟨_,Ea,λY As M H Q s k=>k _ _ _ _ s (az.refl _ _) (.int i)⟩
theorem W8{i j}:aA X z (.Constant (.bool i) j pos) g (.dat (.bl i)) g:=⟨_,V4,λY As M H Q s k=>k _ _ _ _ s (az.refl _ _) (.bl i)⟩
theorem QK{j}:aA X z (.Constant .none j pos) g (.dat .non) g:=⟨_,P7,λY As M H Q s k=>k _ _ _ _ s (az.refl _ _) .non⟩
theorem QL{x j}:aA X z (.Constant (.str x) j pos) g (.dat (.str x)) g:=⟨_,P8,λY As M H Q s k=>k _ _ _ _ s (az.refl _ _) (.str x)⟩
theorem QM{i:Nat}{x:Str}(hN:X.N[i]?=some x)(hv:mq X.env.scope x)(hd:(x==(~~~3))=false)(eF:(x==("__classdict__":Str))=false)(hg:g[i]?=some (.dat d)):aA X z (.Name x pos) g (.dat d) g:=
 ⟨_,dF hN hv hd eF,λY As M H Q s k=>let ⟨v,e,r⟩:=s.sl.oG hg;⟨v,e,k v H As M s (az.refl _ _) r⟩⟩
theorem Ku(hN:X.N[i]?=some x)(hv:mq X.env.scope x)(hd:(x==(~~~3))=false)(eF:(x==("__classdict__":Str))=false)(hg:g[i]?=some (.own l)):aA X z (.Name x pos) g (.var i) g:=
 ⟨_,dF hN hv hd eF,λY As M H Q s k=>let ⟨a,xs,e,r⟩:=s.sl.at hg;⟨_,e,k _ H As M s (az.refl _ _) ⟨l,hg,e⟩⟩⟩
theorem Kv(hg:Gl X x)(hm:X.mg x=some u)(r:RelV v u)(hr:∀M H,Rep z.K M H d v)(hd:(x==(~~~3))=false):aA X z (.Name x pos) g (.dat d) g:=
 ⟨_,JQ hg hm r hd,λY As M H Q s k=>k _ H As M s (az.refl _ _) (hr M H)⟩
theorem oJ(h:aA X z e g (.new l) g'):aA X z e g (.dat (.lst l)) g':=by
 obtain⟨t,p,q⟩:=h;refine⟨t,p,λY As M H Q s k=>q Y As M H Q s λv H' aF M' s' st r=>?_⟩
 obtain⟨a,xs,rfl,hm,hA,h0,ha,rr⟩:=r;have hM:∀m∈(M'.filter λm=>decide (m≠a)),m∈M':=λm hm=>(i9.mp hm).1
 have na:a∉(M'.filter λm=>decide (m≠a)):=λhm=>by
  have:=(i9.mp hm).2;simp at this
 exact k _ H' aF _ (s'.drop h0 hA) (st.trans (az.less hM)) (.lst ⟨na,ha⟩ (rr.stay (az.less hM)))
theorem Bm(h:aA X z e g (.var i) g1)(hg:g1[i]?=some (.own l))(hb:i∉z.bor):aA X z e g (.dat (.lst l)) (g1.set i (.dat (.lst l))):=by
 obtain⟨t,p,q⟩:=h;refine⟨t,p,λY As M H Q s k=>q Y As M H Q s λv H' aF M' s' st r=>?_⟩
 obtain⟨l',h1,h2⟩:=r;obtain⟨bI,M2,s2,aN⟩:=s'.freeze hg hb;have hi:i<g1.length:=(dA.mp hg).1;obtain⟨v',e1,e2⟩:=s2.sl.oG (i:=i) (d:=.lst l) (by rw[hZ hi])
 rw[h2]at e1;injection e1 with e1;injection e1 with e1;subst e1;exact k _ H' bI M2 s2 (st.trans aN) e2
theorem QS(h1:aA X z a g r1 g1)(h2:aA X z b g1 r2 g2)(p1:pk r1 g2=some d1)(p2:pk r2 g2=some d2)(ho:mF X z (binaryOp op) d1 d2 r):aA X z (.BinOp a op b pos) g r g2:=by
 obtain⟨t1,q1,k1⟩:=h1;obtain⟨t2,q2,k2⟩:=h2;obtain⟨rr,o,ko⟩:=ho;exact⟨_,Wk o q1 q2,λY As M H Q s k=>k1 Y As M H _ s λv1 H1 aY M1 s1 dH R1=>k2 Y aY M1 H1 _ s1 λv2 H2 bI M2 s2 aN R2=>
  ko g2 Y bI M2 H2 v1 v2 Q s2 (s2.pk aN R1 p1) (s2.pk (az.refl _ _) R2 p2) λv H' aF M' s' st' R'=>k v H' aF M' s' (dH.trans (aN.trans st')) R'⟩
theorem QT(h1:aA X z a g r1 g1)(h2:aA X z b g1 r2 g2)(p1:pk r1 g2=some d1)(p2:pk r2 g2=some d2)(ho:mF X z (compareOp op) d1 d2 r)(hm:behindInMarks op b=false):aA X z (.Compare a [op] [b] pos) g r g2:=by
 obtain⟨t1,q1,k1⟩:=h1;obtain⟨t2,q2,k2⟩:=h2;obtain⟨rr,o,ko⟩:=ho;exact⟨_,J5 o q1 q2 hm,λY As M H Q s k=>k1 Y As M H _ s λv1 H1 aY M1 s1 dH R1=>k2 Y aY M1 H1 _ s1 λv2 H2 bI M2 s2 aN R2=>
  ko g2 Y bI M2 H2 v1 v2 Q s2 (s2.pk aN R1 p1) (s2.pk (az.refl _ _) R2 p2) λv H' aF M' s' st' R'=>k v H' aF M' s' (dH.trans (aN.trans st')) R'⟩
theorem W9(h1:aA X z a g r1 g1)(h2:aA X z b g1 r2 g2)(p1:pk r1 g2=some d1)(p2:pk r2 g2=some d2)(ho:Vf X z d1 d2 r)(hs:sP b):aA X z (.Subscript a b pos) g r g2:=by
 obtain⟨t1,q1,k1⟩:=h1;obtain⟨t2,q2,k2⟩:=h2;obtain⟨rr,o,ko⟩:=ho;exact⟨_,Oe o q1 q2 hs,λY As M H Q s k=>k1 Y As M H _ s λv1 H1 aY M1 s1 dH R1=>k2 Y aY M1 H1 _ s1 λv2 H2 bI M2 s2 aN R2=>
  ko g2 Y bI M2 H2 v1 v2 Q s2 (s2.pk aN R1 p1) (s2.pk (az.refl _ _) R2 p2) λv H' aF M' s' st' R'=>k v H' aF M' s' (dH.trans (aN.trans st')) R'⟩
theorem Xa(h1:aA X z a g r1 g1)(p1:pk r1 g1=some d1)(ho:UnD X z (unaryOp op) d1 r):aA X z (.UnaryOp op a pos) g r g1:=by obtain⟨t1,q1,k1⟩:=h1;obtain⟨rr,o,ko⟩:=ho;exact⟨_,Od o q1,λY As M H Q s k=>k1 Y As M H _ s λv1 H1 aY M1 s1 dH R1=>ko g1 Y aY M1 H1 v1 Q s1 (s1.pk (az.refl _ _) R1 p1) λv H' aF M' s' st' R'=>k v H' aF M' s' (dH.trans st') R'⟩
theorem gP(q:fX z g Y As M H (.dat (.bl c)) v):v=.bl c:=by have q':Rep z.K M H (.bl c) v:=q;cases q';rfl
theorem QV(h1:aA X z a g r1 g1)(h2:aA X z b g1 r2 g2)(p1:pk r1 g2=some d1)(p2:pk r2 g2=some d2)(ho:mF X z (compareOp op) d1 d2 (.dat (.bl c)))(hm:behindInMarks op b=false):dI X z (.Compare a [op] [b] pos) g c g2:=by
 obtain⟨t1,q1,k1⟩:=h1;obtain⟨t2,q2,k2⟩:=h2;obtain⟨rr,o,ko⟩:=ho;exact⟨_,J6 o q1 q2 hm,λY As M H Q s k=>k1 Y As M H _ s λv1 H1 aY M1 s1 dH R1=>k2 Y aY M1 H1 _ s1 λv2 H2 bI M2 s2 aN R2=>
  ko g2 Y bI M2 H2 v1 v2 _ s2 (s2.pk aN R1 p1) (s2.pk (az.refl _ _) R2 p2) λv H' aF M' s' st' R'=>⟨c,gP R',k H' aF M' s' (dH.trans (aN.trans st'))⟩⟩
theorem QW(h:dI X z a g c g'):dI X z (.UnaryOp .Not a pos) g (!c) g':=by obtain⟨t,q,k⟩:=h;exact⟨_,P9 q,λY As M H Q s kk=>k Y As M H _ s λH' aF M' s' st=>kk H' aF M' s' st⟩
def nu(X:Cx)(z:Z)(e:Expr)(g:G)(b:Bool)(g':G):Prop:=
 ∃t,PW X e t/\∀Y As M H (Q:Bool->Hp->Prop),S z g Y As M H->(∀H' aF M',S z g' Y aF M' H'->az M H M' H'->Q b H')->t Y H Q
theorem nu.tr(h:nu X z e g c g'):dI X z e g c g':=let ⟨t,q,k⟩:=h;⟨t,q.pt,k⟩
theorem Kw(h:dI X z a g c g'):nu X z (.BoolOp .And [a] pos) g c g':=let ⟨t,q,k⟩:=h;⟨t,pw_and1 q,k⟩
theorem QX(h:dI X z a g c g'):nu X z (.BoolOp .Or [a] pos) g c g':=let ⟨t,q,k⟩:=h;⟨t,pw_or1 q,k⟩
def tNo:TT:=λ_ _ _=>False
theorem pw_never:PW X e tNo:=λ_ _ _ _ _ _ _ h=>h.elim
theorem j3:PE X e (λ_ _ _=>False):=λ_ _ _ _ _ _ h=>h.elim
theorem Ky{rest:List Expr}(h:dI X z a g false g1):nu X z (.BoolOp .And (a::b::rest) pos) g false g1:=by obtain⟨t,q,k⟩:=h;exact⟨_,pw_and q pw_never,λY As M H Q s kk=>k Y As M H _ s λH' aF M' s' st=>qD (kk H' aF M' s' st)⟩
theorem Kz{rest:List Expr}{c:Bool}(h:dI X z a g true g1)(h2:nu X z (.BoolOp .And (b::rest) pos) g1 c g2):nu X z (.BoolOp .And (a::b::rest) pos) g c g2:=by obtain⟨t,q,k⟩:=h;obtain⟨t2,q2,k2⟩:=h2;exact⟨_,pw_and q q2,λY As M H Q s kk=>k Y As M H _ s λH' aF M' s' st=>kW (k2 Y aF M' H' Q s' λH2 bI M2 s2 aN=>kk H2 bI M2 s2 (st.trans aN))⟩
theorem QZ{rest:List Expr}(h:dI X z a g true g1):nu X z (.BoolOp .Or (a::b::rest) pos) g true g1:=by obtain⟨t,q,k⟩:=h;exact⟨_,pw_or q pw_never,λY As M H Q s kk=>k Y As M H _ s λH' aF M' s' st=>kW (kk H' aF M' s' st)⟩
theorem Q5{rest:List Expr}{c:Bool}(h:dI X z a g false g1)(h2:nu X z (.BoolOp .Or (b::rest) pos) g1 c g2):nu X z (.BoolOp .Or (a::b::rest) pos) g c g2:=by obtain⟨t,q,k⟩:=h;obtain⟨t2,q2,k2⟩:=h2;exact⟨_,pw_or q q2,λY As M H Q s kk=>k Y As M H _ s λH' aF M' s' st=>qD (k2 Y aF M' H' Q s' λH2 bI M2 s2 aN=>kk H2 bI M2 s2 (st.trans aN))⟩
theorem Fe(h:aA X z a g r g'):aA X z (.BoolOp op [a] pos) g r g':=let ⟨t,q,k⟩:=h;⟨t,Qa q,k⟩
theorem KC{rest:List Expr}(h:aA X z a g (.dat (.bl false)) g1):aA X z (.BoolOp .And (a::b::rest) pos) g (.dat (.bl false)) g1:=by obtain⟨t,q,k⟩:=h;exact⟨_,Eb q j3,λY As M H Q s kk=>k Y As M H _ s λv H' aF M' s' st R=>⟨false,gP R,qD (kk _ H' aF M' s' st (.bl false))⟩⟩
theorem KD{rest:List Expr}(h:aA X z a g (.dat (.bl true)) g1)(h2:aA X z (.BoolOp .And (b::rest) pos) g1 r g2):aA X z (.BoolOp .And (a::b::rest) pos) g r g2:=by obtain⟨t,q,k⟩:=h;obtain⟨t2,q2,k2⟩:=h2;exact⟨_,Eb q q2,λY As M H Q s kk=>k Y As M H _ s λv H' aF M' s' st R=>⟨true,gP R,kW (k2 Y aF M' H' Q s' λv2 H2 bI M2 s2 aN=>kk v2 H2 bI M2 s2 (st.trans aN))⟩⟩
theorem Q6{rest:List Expr}(h:aA X z a g (.dat (.bl true)) g1):aA X z (.BoolOp .Or (a::b::rest) pos) g (.dat (.bl true)) g1:=by obtain⟨t,q,k⟩:=h;exact⟨_,N9 q j3,λY As M H Q s kk=>k Y As M H _ s λv H' aF M' s' st R=>⟨true,gP R,kW (kk _ H' aF M' s' st (.bl true))⟩⟩
theorem Q7{rest:List Expr}(h:aA X z a g (.dat (.bl false)) g1)(h2:aA X z (.BoolOp .Or (b::rest) pos) g1 r g2):aA X z (.BoolOp .Or (a::b::rest) pos) g r g2:=by obtain⟨t,q,k⟩:=h;obtain⟨t2,q2,k2⟩:=h2;exact⟨_,N9 q q2,λY As M H Q s kk=>k Y As M H _ s λv H' aF M' s' st R=>⟨false,gP R,qD (k2 Y aF M' H' Q s' λv2 H2 bI M2 s2 aN=>kk v2 H2 bI M2 s2 (st.trans aN))⟩⟩
theorem Q8(h:aA X z a g (.dat (.bl c)) g1):aA X z (.UnaryOp .Not a pos) g (.dat (.bl (!c))) g1:=by obtain⟨t,q,k⟩:=h;exact⟨_,Qc q,λY As M H Q s kk=>k Y As M H _ s λv H' aF M' s' st R=>⟨c,gP R,kk _ H' aF M' s' st (.bl _)⟩⟩
theorem Q9(h:dI X z c g true g1)(h2:aA X z a g1 r g2):aA X z (.IfExp c a b pos) g r g2:=by obtain⟨t,q,k⟩:=h;obtain⟨t2,q2,k2⟩:=h2;exact⟨_,uV q q2 j3,λY As M H Q s kk=>k Y As M H _ s λH' aF M' s' st=>kW (k2 Y aF M' H' Q s' λv2 H2 bI M2 s2 aN=>kk v2 H2 bI M2 s2 (st.trans aN))⟩
theorem Ra(h:dI X z c g false g1)(h2:aA X z b g1 r g2):aA X z (.IfExp c a b pos) g r g2:=by obtain⟨t,q,k⟩:=h;obtain⟨t2,q2,k2⟩:=h2;exact⟨_,uV q j3 q2,λY As M H Q s kk=>k Y As M H _ s λH' aF M' s' st=>qD (k2 Y aF M' H' Q s' λv2 H2 bI M2 s2 aN=>kk v2 H2 bI M2 s2 (st.trans aN))⟩
inductive jA(z:Z)(Y:Sg)(M:List Addr)(H:Hp):List R->List V->Prop
 |nil:jA z Y M H [] []
 |dat {d:D}{v:V}{rs:List R}{vs:List V}:Rep z.K M H d v->jA z Y M H rs vs->jA z Y M H (.dat d::rs) (v::vs)
 |var {i:Nat}{v:V}{rs:List R}{vs:List V}:Y[i]?=some (some v)->jA z Y M H rs vs->jA z Y M H (.var i::rs) (v::vs)
def cZ(X:Cx)(z:Z)(es:List Expr)(g:G)(rs:List R)(g':G):Prop:=
 ∃t,PA X es t/\∀Y As M H (Q:List V->Hp->Prop),S z g Y As M H->(∀vs H' aF M',S z g' Y aF M' H'->az M H M' H'->jA z Y M' H' rs vs->Q vs H')->t Y H Q
theorem dO:cZ X z [] g [] g:=⟨_,oh,λY As M H Q s k=>k [] H As M s (az.refl _ _) .nil⟩
theorem cI(h:aA X z e g (.dat d) g1)(h2:cZ X z es g1 rs g2)(hs:starEach (e::es) X.env=(false,eval e X.env)::starEach es X.env):cZ X z (e::es) g (.dat d::rs) g2:=by obtain⟨t,q,k⟩:=h;obtain⟨t2,q2,k2⟩:=h2;exact⟨_,iX q q2 hs,λY As M H Q s kk=>k Y As M H _ s λv H' aF M' s' st R=>k2 Y aF M' H' _ s' λvs H2 bI M2 s2 aN R2=>kk _ H2 bI M2 s2 (st.trans aN) (.dat (Rep.stay aN R) R2)⟩
theorem Ff(h:aA X z e g (.var i) g1)(h2:cZ X z es g1 rs g2)(hs:starEach (e::es) X.env=(false,eval e X.env)::starEach es X.env):cZ X z (e::es) g (.var i::rs) g2:=by obtain⟨t,q,k⟩:=h;obtain⟨t2,q2,k2⟩:=h2;exact⟨_,iX q q2 hs,λY As M H Q s kk=>k Y As M H _ s λv H' aF M' s' st ⟨_,_,R⟩=>k2 Y aF M' H' _ s' λvs H2 bI M2 s2 aN R2=>kk _ H2 bI M2 s2 (st.trans aN) (.var R R2)⟩
inductive KH(K:Frag)(M:List Addr)(H:Hp):List D->List V->Prop
 |nil:KH K M H [] []
 |cons {d:D}{v:V}{ds:List D}{vs:List V}:Pk K M H d v->KH K M H ds vs->KH K M H (d::ds) (v::vs)
def qF:List R->G->Option (List D)
 | [],_=>some []
 |r::rs,g=>match pk r g,qF rs g with
  |some d,some ds=>some (d::ds)
  |_,_=>none
theorem S.qF(s:S z g Y As M H)(q:jA z Y M H rs vs)(e:qF rs g=some ds):KH z.K M H ds vs:=by
 induction q generalizing ds with
 |nil=>cases e;exact .nil
 |@dat d v rs vs r q ih=>
  unfold Ev.qF at e;cases e2:Ev.qF rs g with
  |none=>rw[e2]at e;cases e
  |some ds=>rw[e2]at e;cases e;exact .cons (.of r) (ih e2)
 |@var i v rs vs r q ih=>
  unfold Ev.qF at e;cases e1:Ev.pk (.var i) g with
  |none=>rw[e1]at e;cases e
  |some d=>
   cases e2:Ev.qF rs g with
   |none=>rw[e1,e2]at e;cases e
   |some ds=>
    rw[e1,e2]at e;cases e;unfold Ev.pk at e1;dsimp only at e1;split at e1
    . rename_i l hg;cases e1;obtain⟨a,xs,h1,h2,h3,h4⟩:=s.sl.at hg;rw[r]at h1;injection h1 with h1;injection h1 with h1;subst h1;exact .cons (.lst h3 h4) (ih e2)
    . rename_i l hg;cases e1;obtain⟨w,h1,h2⟩:=s.sl.oG hg;rw[r]at h1;injection h1 with h1;injection h1 with h1;exact .cons (.of (h1▸h2)) (ih e2)
    . cases e1
noncomputable def tB:List R->Option (List D)
 | []=>some []
 |.dat d::rs=>match tB rs with |some ds=>some (d::ds) |none=>none
 |_::_=>none
theorem tD(q:jA z Y M H rs vs)(e:tB rs=some ds):aI z.K M H ds vs:=by
 induction q generalizing ds with
 |nil=>cases e;exact .nil
 |@dat d v rs vs r q ih=>
  unfold tB at e;cases e2:tB rs with
  |none=>rw[e2]at e;cases e
  |some ds=>rw[e2]at e;cases e;exact .cons r (ih e2)
 |var _ _ _=>cases e
theorem oK(h:n<=16777216):n<=sizeLine:=by rw[nS];exact h
theorem Rb{x1}(h:cZ X z es g rs g')(hd:tB rs=some ds)(hl:ds.length<=16777216):aA X z (.Tuple es x1 pos) g (.dat (.tup ds)) g':=by
 obtain⟨t,q,k⟩:=h;refine⟨_,Em q,λY As M H Q s kk=>k Y As M H _ s λvs H' aF M' s' st R=>?_⟩
 have rr:=tD R hd;refine⟨by rw[<- rr.length];exact oK hl,λp hp=>kk _ _ aF M' (s'.laid hp) (st.trans (az.laid hp)) (.tup (.inl ⟨s'.fresh hp,.inl aG⟩) (rr.stay (az.laid hp)))⟩
theorem Rc(h:cZ X z es g rs g')(hd:tB rs=some ds)(hl:ds.length<=16777216):aA X z (.List es pos) g (.new ds) g':=by
 obtain⟨t,q,k⟩:=h;refine⟨_,En q,λY As M H Q s kk=>k Y As M H _ s λvs H' aF M' s' st R=>?_⟩
 have rr:=tD R hd;refine⟨by rw[<- rr.length];exact oK hl,λp hp=>kk _ _ aF (p::M') (s'.aV hp) (st.trans (az.aV hp)) ⟨p,vs,rfl,c8,λhA=>s'.fresh hp (s'.sub p hA),s'.cH hp,aG,rr.stay (az.aV hp)⟩⟩
def CallD(X:Cx)(z:Z)(f:Value)(ds:List D)(res:R):Prop:=
 ∃r,fz X f r/\∀g Y As M H vs Q,S z g Y As M H->KH z.K M H ds vs->Kn z g Y M H res Q->r vs H Q
theorem fC{x:Str}{id:String}{p:Pos}{es:List Expr}{rs:List R}{ds:List D}(h:cZ X z (e::es) g rs g')(hp:qF rs g'=some ds)(hc:CallD X z (.builtin id) ds r)(hg:Gl X x)(hm:X.mg x=none)(hv:bootBuiltins x=some (.builtin id))(hn:x≠ "__name__")(Am:(x==(~~~3))=false)
  (he:starEach (e::es) X.env=(false,eval e X.env)::starEach es X.env) (mh:(backTo pos (starEach es X.env)).any (·.1)=false):aA X z (.Call (.Name x p) (e::es) [] pos) g r g':=by
 obtain⟨t,q,k⟩:=h;obtain⟨rr,c,kc⟩:=hc;exact⟨_,u9 c hg hm hv q hn Am he mh,λY As M H Q s kk=>k Y As M H _ s λvs H' aF M' s' st R=>kc g' Y aF M' H' vs Q s' (s'.qF R hp) λv H2 bI M2 s2 aN R2=>kk v H2 bI M2 s2 (st.trans aN) R2⟩
theorem lg(h:cZ X z (e::es) g rs g')(hp:qF rs g'=some ds)(hc:CallD X z (.type T) ds r)(hg:Gl X x)(hm:X.mg x=none)(hv:bootBuiltins x=some (.type T))(hn:x≠ "__name__")(Am:(x==(~~~3))=false)
  (he:starEach (e::es) X.env=(false,eval e X.env)::starEach es X.env) (mh:(backTo pos (starEach es X.env)).any (·.1)=false):aA X z (.Call (.Name x p) (e::es) [] pos) g r g':=by
 obtain⟨t,q,k⟩:=h;obtain⟨rr,c,kc⟩:=hc;exact⟨_,Bc c hg hm hv q hn Am he mh,λY As M H Q s kk=>k Y As M H _ s λvs H' aF M' s' st R=>kc g' Y aF M' H' vs Q s' (s'.qF R hp) λv H2 bI M2 s2 aN R2=>kk v H2 bI M2 s2 (st.trans aN) R2⟩
end
mutual
noncomputable def cP:D->D->Bool
 |.non,.non=>true
 |.bl a,.bl b=>a==b
 |.bl a,.int j=>(if a then 1 else 0)==j
 |.int i,.bl b=>i==(if b then 1 else 0)
 |.int i,.int j=>i==j
 |.str x,.str y=>x==y
 |.tup l,.tup m=>dB l m
 |.lst l,.lst m=>dB l m
 |.lst l,.fix m=>dB l m
 |.fix l,.lst m=>dB l m
 |.fix l,.fix m=>dB l m
 |_,_=>false
noncomputable def dB:List D->List D->Bool
 | [],[]=>true
 |a::l,b::m=>cP a b&&dB l m
 |_,_=>false
end
mutual
noncomputable def dep:D->Nat
 |.tup l=>deps l+1
 |.lst l=>deps l+1
 |.fix l=>deps l+1
 |_=>0
noncomputable def deps:List D->Nat
 | []=>0
 |d::l=>max (dep d) (deps l)
end
mutual
noncomputable def iZ:D->Bool
 |.tup l=>fS l
 |.lst l=>fS l
 |.fix l=>fS l
 |.emp=>false
 |.Dy _=>false
 |.vg ..=>false
 |_=>true
noncomputable def fS:List D->Bool
 | []=>true
 |d::l=>iZ d&&fS l
end
mutual
inductive Dv(h:Heap):D->Value->Prop
 |non:Dv h .non .none
 |bl (b:Bool):Dv h (.bl b) (.bool b)
 |int (i:Int) (t:Tok):Dv h (.int i) (.int i t)
 |str (x:Str) (t:Tok):Dv h (.str x) (.str x t)
 |tup {l:List D}{a:Addr}{us:List Value}:IsTup h a us.toArray->nB h l us->Dv h (.tup l) (.ref a)
 |lst {l:List D}{a:Addr}{us:List Value}:h.IsList a us.toArray->nB h l us->Dv h (.lst l) (.ref a)
 |fix {l:List D}{a:Addr}{us:List Value}:h.IsList a us.toArray->nB h l us->Dv h (.fix l) (.ref a)
inductive nB(h:Heap):List D->List Value->Prop
 |nil:nB h [] []
 |cons {d:D}{ds:List D}{u:Value}{us:List Value}:Dv h d u->nB h ds us->nB h (d::ds) (u::us)
end
section
theorem Rep.dv2(I: ~~~7)(q:Rep X.K M H d v):∀u,RelV v u->iZ d=true->Dv s.heap d u:=by
 refine Rep.rec (motive_1:=λd v _=>∀u,RelV v u->iZ d=true->Dv s.heap d u) (motive_2:=λds vs _=>∀us,Vals vs us->fS ds=true->nB s.heap ds us) ?_ ?_ ?_ ?_ ?_ ?_ ?_ ?_ ?_ ?_ ?_ ?_ q
 . intro u r _;cases r;exact .non
 . intro b u r _;cases r;exact .bl b
 . intro i u r _;obtain⟨t,rfl⟩:=r;exact .int i t
 . intro x u r _;obtain⟨t,rfl⟩:=r;exact .str x t
 . intro l a xs h _ ih u r p;cases r;obtain⟨its,rv,ht,hz⟩:=I.tuple h.sq;exact .tup ht (ih _ rv p)
 . intro l a xs h _ ih u r p;cases r;obtain⟨its,rv,ht,hz⟩:=I.list (cB.of h.2);exact .lst ht.isList (ih _ rv p)
 . intro l a xs h _ ih u r p;cases r;obtain⟨its,rv,ht,hz⟩:=I.list h.sq;exact .fix ht.isList (ih _ rv p)
 . intro a _ _ u _ p;exact Bool.noConfusion (show false=true from p)
 . intro C a _ _ _ u _ p;exact Bool.noConfusion (show false=true from p)
 . intro ks ds a vs _ _ _ _ _ u _ p;exact Bool.noConfusion (show false=true from p)
 . intro us r _;cases r;exact .nil
 .
  intro d ds x xs _ _ i1 i2 us r p;cases r with
  |cons r1 r2=>have p:(iZ d&&fS ds)=true:=p;rw[dE]at p;exact .cons (i1 _ r1 p.1) (i2 _ r2 p.2)
theorem Rep.dv(I: ~~~7)(q:Rep X.K M H d v)(r:RelV v u)(p:iZ d=true):Dv s.heap d u:=q.dv2 I u r p
theorem aI.dv(I: ~~~7)(q:aI X.K M H ds vs)(r:Vals vs us)(p:fS ds=true):nB s.heap ds us:=by
 induction ds generalizing vs us with
 |nil=>cases q;cases r;exact .nil
 |cons d ds ih=>cases q with |cons q1 q2=>cases r with |cons r1 r2=>have p:(iZ d&&fS ds)=true:=p;rw[dE]at p;exact .cons (q1.dv I r1 p.1) (ih q2 r2 p.2)
theorem Pk.dv(I: ~~~7)(h:Pk X.K M H d v)(r:RelV v u)(p:iZ d=true):Dv s.heap d u:=by
 cases h with
 |of q=>exact q.dv I r p
 |lst h q=>cases r;obtain⟨its,rv,ht,hz⟩:=I.list (cB.of h);exact .lst ht.isList (aI.dv I q rv (by simpa [iZ]using p))
end
theorem nB.length(q:nB h l us):l.length=us.length:=by
 induction l generalizing us with
 |nil=>cases q;rfl
 |cons d l ih=>cases q with |cons a b=>exact congrArg (· + 1) (ih b)
theorem rm{h:Heap}{a:Addr}{us ws:List Value}(x:IsTup h a us.toArray)(y:IsTup h a ws.toArray):us=ws:=by obtain⟨o,e,_,n,d⟩:=x;obtain⟨o',e',_,n',d'⟩:=y;rw[e]at e';cases e';rw[d]at d';injection d' with d1 _;simpa using congrArg Array.toList d1
theorem cJ{h:Heap}{a:Addr}{us ws:List Value}(x:h.IsList a us.toArray)(y:h.IsList a ws.toArray):us=ws:=by obtain⟨o,e,_,n,d⟩:=x;obtain⟨o',e',_,n',d'⟩:=y;rw[e]at e';cases e';rw[d]at d';injection d' with d1 _;simpa using congrArg Array.toList d1
theorem eo(x:IsTup h a us)(y:h.IsList a ws):False:=by obtain⟨o,e,c,_⟩:=x;obtain⟨o',e',c',_⟩:=y;rw[e]at e';cases e';rw[c]at c';injection c' with c';exact absurd c' ⋯
theorem Fg{h:Heap}{d1:D}{u:Value}(q:Dv h d1 u):∀d2,Dv h d2 u->cP d1 d2=true:=by
 refine Dv.rec (motive_1:=λd1 u _=>∀d2,Dv h d2 u->cP d1 d2=true) (motive_2:=λl us _=>∀m,nB h m us->dB l m=true) ?_ ?_ ?_ ?_ ?_ ?_ ?_ ?_ ?_ q
 . intro d2 q;cases q;rfl
 . intro b d2 q;cases q;exact CF b
 . intro i t d2 q;cases q;exact CF i
 . intro x t d2 q;cases q;exact CF x
 .
  intro l a us x _ ih d2 q;cases q with
  |tup y q'=>cases rm x y;exact ih _ q'
  |lst y _=>exact (eo x y).elim
  |fix y _=>exact (eo x y).elim
 .
  intro l a us x _ ih d2 q;cases q with
  |tup y _=>exact (eo y x).elim
  |lst y q'=>cases cJ x y;exact ih _ q'
  |fix y q'=>cases cJ x y;exact ih _ q'
 .
  intro l a us x _ ih d2 q;cases q with
  |tup y _=>exact (eo y x).elim
  |lst y q'=>cases cJ x y;exact ih _ q'
  |fix y q'=>cases cJ x y;exact ih _ q'
 . intro m q;cases q;rfl
 .
  intro d ds u us _ _ i1 i2 m q;cases q with
  |@cons d' m _ _ b q'=>show (cP d d'&&dB ds m)=true;rw[i1 _ b,i2 _ q'];rfl
theorem KJ(q:Dv h d1 u)(q':Dv h d2 u):cP d1 d2=true:=Fg q d2 q'
def Oj(l m:List D)(j:Nat):Bool:=match l[j]?,m[j]? with |some a,some b=>cP a b |_,_=>false
theorem oM(l m:List D)(h:l.length=m.length):(List.range l.length).all (Oj l m)=dB l m:=by
 induction l generalizing m with
 |nil=>cases m with
  |nil=>rfl
  |cons _ _=>symm
 |cons a l ih=>cases m with
  |nil=>symm
  |cons b m=>rw[i5,List.range_succ_eq_map,List.all_cons,Cs];have e:(Oj (a::l) (b::m) ∘ Nat.succ)=Oj l m:=rfl;rw[e,ih m (CA h)];rfl
theorem oN(l m:List D)(h:l.length≠m.length):dB l m=false:=by
 induction l generalizing m with
 |nil=>cases m with
  |nil=>exact absurd rfl h
  |cons _ _=>rfl
 |cons a l ih=>cases m with
  |nil=>rfl
  |cons b m=>show (cP a b&&dB l m)=false;rw[ih m (λe=>h (congrArg (· + 1) e)),Do]
theorem vh(l m:List D):((List.range (min l.length m.length)).all (Oj l m)&&l.length==m.length)=dB l m:=by
 by_cases h:l.length=m.length
 . rw[h,Nat.min_self,<- h,oM l m h];simp
 .
  rw[oN l m h];have:(l.length==m.length)=false:=by simpa using h
  rw[this,Do]
theorem oO{l:List D}{j:Nat}{d:D}(e:l[j]?=some d):dep d<=deps l:=by
 induction l generalizing j with
 |nil=>exact nomatch (show none=some d from e)
 |cons d' l ih=>cases j with
  |zero=>cases (show some d'=some d from e);exact Nat.le_max_left _ _
  |succ j=>exact kA (ih (show l[j]?=some d from e)) (Nat.le_max_right _ _)
theorem nB.get{h:Heap}{l:List D}{us:List Value}{j:Nat}{u:Value}(q:nB h l us)(e:us[j]?=some u):∃d,l[j]?=some d/\Dv h d u:=by
 induction l generalizing us j with
 |nil=>cases q;exact nomatch (show none=some u from e)
 |cons d' l ih=>cases q with |@cons _ _ u' us a b=>cases j with
  |zero=>cases (show some u'=some u from e);exact⟨_,rfl,a⟩
  |succ j=>obtain⟨d,h⟩:=ih (j:=j) b e;exact⟨d,h⟩
theorem in1_units(A:Around):A.in1.units=A.units+1:=rfl
section
theorem j4(hl:s.heap.IsList l us.toArray)(hb:s.heap.IsList b ws.toArray)(q:nB s.heap ls us)(q':nB s.heap ms ws)(hu:A.units<cLine)
  (he:∀(j:Nat) d1 d2 u1 u2,ls[j]?=some d1->Dv s.heap d1 u1->Dv s.heap d2 u2->SeqAt.EqAt A.in1 s u1 u2 (cP d1 d2)):SeqAt.RcAt A s (.ref l) (.ref b) (dB ls ms):=by
 have h1:=q.length;have h2:=q'.length;by_cases h:ls.length=ms.length
 .
  rw[<- oM ls ms h];have e:us.toArray.size=ls.length:=by rw[dC,h1]
  rw[<- e];refine SeqAt.RcAt.lists hl hb (by rw[dC,dC];lia) hu λj g1 g2=>?_
  rw[dC]at g1 g2;obtain⟨d1,e1,v1⟩:=q.get (j:=j) (u:=us[j]) (by simp[g1])
  obtain⟨d2,e2,v2⟩:=q'.get (j:=j) (u:=ws[j]) (by simp[g2])
  have:=he j d1 d2 us[j] ws[j] e1 v1 v2;simpa [Oj,e1,e2]using this
 . rw[oN ls ms h];refine SeqAt.RcAt.lists_lengths hl hb ?_ hu;rw[dC,dC];simp only[bne_iff_ne];lia
theorem Bo(hl:IsTup s.heap l us.toArray)(hb:IsTup s.heap b ws.toArray)(q:nB s.heap ls us)(q':nB s.heap ms ws)(hu:A.units<cLine)
  (he:∀(j:Nat) d1 d2 u1 u2,ls[j]?=some d1->Dv s.heap d1 u1->Dv s.heap d2 u2->SeqAt.EqAt A.in1 s u1 u2 (cP d1 d2)):SeqAt.RcAt A s (.ref l) (.ref b) (dB ls ms):=by
 have h1:=q.length;have h2:=q'.length;have e:us.toArray.size=ls.length:=by rw[dC,h1]
 have e':ws.toArray.size=ms.length:=by rw[dC,h2]
 rw[<- vh,<- e,<- e'];refine SeqAt.RcAt.tuples hl hb hu λj g1 g2=>?_
 rw[dC]at g1 g2;obtain⟨d1,e1,v1⟩:=q.get (j:=j) (u:=us[j]) (by simp[g1])
 obtain⟨d2,e2,v2⟩:=q'.get (j:=j) (u:=ws[j]) (by simp[g2])
 have:=he j d1 d2 us[j] ws[j] e1 v1 v2;simpa [Oj,e1,e2]using this
theorem iE(x:Dv s.heap d1 (.ref l))(y:Dv s.heap d2 (.ref b))(h:SeqAt.RcAt A s (.ref l) (.ref b) (cP d1 d2)):SeqAt.EqAt A s (.ref l) (.ref b) (cP d1 d2):=by
 by_cases e:l=b
 . subst e;rw[KJ x y];exact .same _
 . exact .of_refs e h
end
theorem Fj{s:Shared}:∀(n:Nat) {d1 d2:D}{u1 u2:Value}{A:Around},dep d1<=n->Dv s.heap d1 u1->Dv s.heap d2 u2->A.units+n<cLine->SeqAt.EqAt A s u1 u2 (cP d1 d2)/\SeqAt.RcAt A s u1 u2 (cP d1 d2):=by
 intro n
 induction n with
 |zero=>
  intro d1 d2 u1 u2 A hn x y hu;have aW:A.units<cLine:=by lia
  cases x with
  |tup h q=>exact absurd hn (CO _)
  |lst h q=>exact absurd hn (CO _)
  |fix h q=>exact absurd hn (CO _)
  |non=>
   cases y with
   |non=>exact⟨.same _,.none_none⟩
   |bl c'=>exact⟨.none_bool c',.none_bool c'⟩
   |int c' t'=>exact⟨.none_int c' t',.none_int c' t'⟩
   |str c' t'=>exact⟨.none_str c' t',.none_str c' t'⟩
   |tup h' q'=>exact⟨.none_tuple h' aW,.none_tuple h' aW⟩
   |lst h' q'=>exact⟨.none_list h' aW,.none_list h' aW⟩
   |fix h' q'=>exact⟨.none_list h' aW,.none_list h' aW⟩
  |bl c=>
   cases y with
   |non=>exact⟨.bool_none c,.bool_none c⟩
   |bl c'=>exact⟨.bool_bool c c',.bool_bool c c'⟩
   |int c' t'=>exact⟨.bool_int c c' t',.bool_int c c' t'⟩
   |str c' t'=>exact⟨.bool_str c c' t',.bool_str c c' t'⟩
   |tup h' q'=>exact⟨.bool_tuple c h' aW,.bool_tuple c h' aW⟩
   |lst h' q'=>exact⟨.bool_list c h' aW,.bool_list c h' aW⟩
   |fix h' q'=>exact⟨.bool_list c h' aW,.bool_list c h' aW⟩
  |int c t=>
   cases y with
   |non=>exact⟨.int_none c t,.int_none c t⟩
   |bl c'=>exact⟨.int_bool c t c',.int_bool c t c'⟩
   |int c' t'=>exact⟨.int_int c t c' t',.int_int c t c' t'⟩
   |str c' t'=>exact⟨.int_str c t c' t',.int_str c t c' t'⟩
   |tup h' q'=>exact⟨.int_tuple c t h' aW,.int_tuple c t h' aW⟩
   |lst h' q'=>exact⟨.int_list c t h' aW,.int_list c t h' aW⟩
   |fix h' q'=>exact⟨.int_list c t h' aW,.int_list c t h' aW⟩
  |str c t=>
   cases y with
   |non=>exact⟨.str_none c t,.str_none c t⟩
   |bl c'=>exact⟨.str_bool c t c',.str_bool c t c'⟩
   |int c' t'=>exact⟨.str_int c t c' t',.str_int c t c' t'⟩
   |str c' t'=>exact⟨.str_str c t c' t',.str_str c t c' t'⟩
   |tup h' q'=>exact⟨.str_tuple c t h' aW,.str_tuple c t h' aW⟩
   |lst h' q'=>exact⟨.str_list c t h' aW,.str_list c t h' aW⟩
   |fix h' q'=>exact⟨.str_list c t h' aW,.str_list c t h' aW⟩
 |succ n ih=>
  intro d1 d2 u1 u2 A hn x y hu;have aW:A.units<cLine:=by lia
  have el:∀{l:List D},deps l<=n->∀(j:Nat) d1 d2 u1 u2,l[j]?=some d1->Dv s.heap d1 u1->Dv s.heap d2 u2->SeqAt.EqAt A.in1 s u1 u2 (cP d1 d2):=λhl j d1 d2 u1 u2 e v1 v2=>
   (ih (kA (oO e) hl) v1 v2 (by rw[in1_units];lia)).1
  cases x with
  |@tup l0 a0 us0 h q=>
   have hn':deps l0<=n:=B5 hn;have x:=Dv.tup h q;cases y with
   |tup h' q'=>have r:=Bo h h' q q' aW (el hn');exact⟨iE x (.tup h' q') r,r⟩
   |lst h' q'=>exact⟨.tuple_list h h' aW,.tuple_list h h' aW⟩
   |fix h' q'=>exact⟨.tuple_list h h' aW,.tuple_list h h' aW⟩
   |non=>exact⟨.tuple_none h aW,.tuple_none h aW⟩
   |bl b=>exact⟨.tuple_bool b h aW,.tuple_bool b h aW⟩
   |int b t=>exact⟨.tuple_int b t h aW,.tuple_int b t h aW⟩
   |str b t=>exact⟨.tuple_str b t h aW,.tuple_str b t h aW⟩
  |@lst l0 a0 us0 h q=>
   have hn':deps l0<=n:=B5 hn;have x:=Dv.lst h q;cases y with
   |tup h' q'=>exact⟨.list_tuple h h' aW,.list_tuple h h' aW⟩
   |lst h' q'=>have r:=j4 h h' q q' aW (el hn');exact⟨iE x (.lst h' q') r,r⟩
   |fix h' q'=>have r:=j4 h h' q q' aW (el hn');exact⟨iE x (.fix h' q') r,r⟩
   |non=>exact⟨.list_none h aW,.list_none h aW⟩
   |bl b=>exact⟨.list_bool b h aW,.list_bool b h aW⟩
   |int b t=>exact⟨.list_int b t h aW,.list_int b t h aW⟩
   |str b t=>exact⟨.list_str b t h aW,.list_str b t h aW⟩
  |@fix l0 a0 us0 h q=>
   have hn':deps l0<=n:=B5 hn;have x:=Dv.fix h q;cases y with
   |tup h' q'=>exact⟨.list_tuple h h' aW,.list_tuple h h' aW⟩
   |lst h' q'=>have r:=j4 h h' q q' aW (el hn');exact⟨iE x (.lst h' q') r,r⟩
   |fix h' q'=>have r:=j4 h h' q q' aW (el hn');exact⟨iE x (.fix h' q') r,r⟩
   |non=>exact⟨.list_none h aW,.list_none h aW⟩
   |bl b=>exact⟨.list_bool b h aW,.list_bool b h aW⟩
   |int b t=>exact⟨.list_int b t h aW,.list_int b t h aW⟩
   |str b t=>exact⟨.list_str b t h aW,.list_str b t h aW⟩
  |non=>
   cases y with
   |non=>exact⟨.same _,.none_none⟩
   |bl c'=>exact⟨.none_bool c',.none_bool c'⟩
   |int c' t'=>exact⟨.none_int c' t',.none_int c' t'⟩
   |str c' t'=>exact⟨.none_str c' t',.none_str c' t'⟩
   |tup h' q'=>exact⟨.none_tuple h' aW,.none_tuple h' aW⟩
   |lst h' q'=>exact⟨.none_list h' aW,.none_list h' aW⟩
   |fix h' q'=>exact⟨.none_list h' aW,.none_list h' aW⟩
  |bl c=>
   cases y with
   |non=>exact⟨.bool_none c,.bool_none c⟩
   |bl c'=>exact⟨.bool_bool c c',.bool_bool c c'⟩
   |int c' t'=>exact⟨.bool_int c c' t',.bool_int c c' t'⟩
   |str c' t'=>exact⟨.bool_str c c' t',.bool_str c c' t'⟩
   |tup h' q'=>exact⟨.bool_tuple c h' aW,.bool_tuple c h' aW⟩
   |lst h' q'=>exact⟨.bool_list c h' aW,.bool_list c h' aW⟩
   |fix h' q'=>exact⟨.bool_list c h' aW,.bool_list c h' aW⟩
  |int c t=>
   cases y with
   |non=>exact⟨.int_none c t,.int_none c t⟩
   |bl c'=>exact⟨.int_bool c t c',.int_bool c t c'⟩
   |int c' t'=>exact⟨.int_int c t c' t',.int_int c t c' t'⟩
   |str c' t'=>exact⟨.int_str c t c' t',.int_str c t c' t'⟩
   |tup h' q'=>exact⟨.int_tuple c t h' aW,.int_tuple c t h' aW⟩
   |lst h' q'=>exact⟨.int_list c t h' aW,.int_list c t h' aW⟩
   |fix h' q'=>exact⟨.int_list c t h' aW,.int_list c t h' aW⟩
  |str c t=>
   cases y with
   |non=>exact⟨.str_none c t,.str_none c t⟩
   |bl c'=>exact⟨.str_bool c t c',.str_bool c t c'⟩
   |int c' t'=>exact⟨.str_int c t c' t',.str_int c t c' t'⟩
   |str c' t'=>exact⟨.str_str c t c' t',.str_str c t c' t'⟩
   |tup h' q'=>exact⟨.str_tuple c t h' aW,.str_tuple c t h' aW⟩
   |lst h' q'=>exact⟨.str_list c t h' aW,.str_list c t h' aW⟩
   |fix h' q'=>exact⟨.str_list c t h' aW,.str_list c t h' aW⟩
section
variable{K:Frag}
theorem Pk.int{i:Int}(h:Pk K M H (.int i) v):v=.int i:=by cases h with |of r=>cases r;rfl
theorem Pk.bl(h:Pk K M H (.bl i) v):v=.bl i:=by cases h with |of r=>cases r;rfl
theorem Pk.str(h:Pk K M H (.str i) v):v=.str i:=by cases h with |of r=>cases r;rfl
theorem Pk.non(h:Pk K M H .non v):v=.non:=by cases h with |of r=>cases r;rfl
theorem Pk.tup{l:List D}(h:Pk K M H (.tup l) v):∃a xs,v=.ref a/\TupAt K M H a xs/\aI K M H l xs:=by cases h with |of r=>cases r with |tup h1 h2=>exact⟨_,_,rfl,h1,h2⟩
theorem Pk.fix{l:List D}(h:Pk K M H (.fix l) v):∃a xs,v=.ref a/\mD K M H a xs/\aI K M H l xs:=by cases h with |of r=>cases r with |fix h1 h2=>exact⟨_,_,rfl,h1,h2⟩
end
section
theorem nM{f:Value->Value->Sem Value}{k:Int->Int->Int}{i j:Int}(h:kN X f (Du λi j=>.int (k i j))):mF X z f (.int i) (.int j) (.dat (.int (k i j))):=
 ⟨_,h,λg Y As M H v1 v2 Q s p1 p2 kk=>⟨i,j,p1.int,p2.int,kk _ H As M s (az.refl _ _) (.int _)⟩⟩
theorem oR{f:Value->Value->Sem Value}{C:Int->Int->Prop}{k:Int->Int->Int}{i j:Int}(h:kN X f (rI C λi j=>.int (k i j)))(hc:C i j):mF X z f (.int i) (.int j) (.dat (.int (k i j))):=
 ⟨_,h,λg Y As M H v1 v2 Q s p1 p2 kk=>⟨i,j,p1.int,p2.int,hc,kk _ H As M s (az.refl _ _) (.int _)⟩⟩
theorem tE{f:Value->Value->Sem Value}{k:Int->Int->Bool}{i j:Int}(h:kN X f (Du λi j=>.bl (k i j))):mF X z f (.int i) (.int j) (.dat (.bl (k i j))):=
 ⟨_,h,λg Y As M H v1 v2 Q s p1 p2 kk=>⟨i,j,p1.int,p2.int,kk _ H As M s (az.refl _ _) (.bl _)⟩⟩
def Rf(z:Z)(d1 d2:D)(b:Bool):R2:=λx y H Q=>(∃M,Pk z.K M H d1 x/\Pk z.K M H d2 y)/\Q (.bl b) H
theorem Xc(hK:z.K=X.K)(p1:iZ d1=true)(p2:iZ d2=true)(hd:X.A.units+dep d1<cLine):mF X z (compareOp .Eq) d1 d2 (.dat (.bl (cP d1 d2))):=by
 refine⟨Rf z d1 d2 (cP d1 d2),?_,λg Y As M H v1 v2 Q s q1 q2 kk=>⟨⟨M,q1,q2⟩,kk _ H As M s (az.refl _ _) (.bl _)⟩⟩
 intro L s Y H x y v u Q I rx ry h;obtain⟨⟨M,q1,q2⟩,q⟩:=h;rw[hK]at q1 q2;exact (Fj (dep d1) (eD _) (q1.dv I rx p1) (q2.dv I ry p2) hd).2 X.prog X.w X.xe _ ⟨.bl _,H,I,rfl,q⟩
section
theorem j5(hl:s.heap.IsList l us.toArray)(hb:s.heap.IsList b ws.toArray)(q:nB s.heap ls us)(q':nB s.heap ms ws)(hu:A.units<cLine)
  (he:∀(j:Nat) d1 d2 u1 u2,ls[j]?=some d1->Dv s.heap d1 u1->Dv s.heap d2 u2->SeqAt.EqAt A.in1 s u1 u2 (cP d1 d2)):SeqAt.RcNeAt A s (.ref l) (.ref b) (!dB ls ms):=by
 have h1:=q.length;have h2:=q'.length;by_cases h:ls.length=ms.length
 .
  rw[<- oM ls ms h];have e:us.toArray.size=ls.length:=by rw[dC,h1]
  rw[<- e];refine SeqAt.RcNeAt.lists hl hb (by rw[dC,dC];lia) hu λj g1 g2=>?_
  rw[dC]at g1 g2;obtain⟨d1,e1,v1⟩:=q.get (j:=j) (u:=us[j]) (by simp[g1])
  obtain⟨d2,e2,v2⟩:=q'.get (j:=j) (u:=ws[j]) (by simp[g2])
  have:=he j d1 d2 us[j] ws[j] e1 v1 v2;simpa [Oj,e1,e2]using this
 . rw[oN ls ms h];refine SeqAt.RcNeAt.lists_lengths hl hb ?_ hu;rw[dC,dC];simp only[bne_iff_ne];lia
theorem Bp(hl:IsTup s.heap l us.toArray)(hb:IsTup s.heap b ws.toArray)(q:nB s.heap ls us)(q':nB s.heap ms ws)(hu:A.units<cLine)
  (he:∀(j:Nat) d1 d2 u1 u2,ls[j]?=some d1->Dv s.heap d1 u1->Dv s.heap d2 u2->SeqAt.EqAt A.in1 s u1 u2 (cP d1 d2)):SeqAt.RcNeAt A s (.ref l) (.ref b) (!dB ls ms):=by
 have h1:=q.length;have h2:=q'.length;have e:us.toArray.size=ls.length:=by rw[dC,h1]
 have e':ws.toArray.size=ms.length:=by rw[dC,h2]
 rw[<- vh,<- e,<- e'];refine SeqAt.RcNeAt.tuples hl hb hu λj g1 g2=>?_
 rw[dC]at g1 g2;obtain⟨d1,e1,v1⟩:=q.get (j:=j) (u:=us[j]) (by simp[g1])
 obtain⟨d2,e2,v2⟩:=q'.get (j:=j) (u:=ws[j]) (by simp[g2])
 have:=he j d1 d2 us[j] ws[j] e1 v1 v2;simpa [Oj,e1,e2]using this
end
theorem Xd(x:Dv s.heap d1 u1)(y:Dv s.heap d2 u2)(hu:A.units+dep d1<cLine):SeqAt.RcNeAt A s u1 u2 (!cP d1 d2):=by
 have aW:A.units<cLine:=by lia
 have el:∀{l:List D},deps l+1<=dep d1->∀(j:Nat) d1 d2 u1 u2,l[j]?=some d1->Dv s.heap d1 u1->Dv s.heap d2 u2->SeqAt.EqAt A.in1 s u1 u2 (cP d1 d2):=λhl j e1 e2 u1 u2 e v1 v2=>
  (Fj (dep e1) (eD _) v1 v2 (by rw[in1_units];have:=oO e;lia)).1
 cases x with
 |tup h q=>
  cases y with
  |tup h' q'=>exact Bp h h' q q' aW (el (by simp[dep]))
  |lst h' q'=>exact .tuple_list h h' aW
  |fix h' q'=>exact .tuple_list h h' aW
  |non=>exact .tuple_none h aW
  |bl b=>exact .tuple_bool b h aW
  |int b t=>exact .tuple_int b t h aW
  |str b t=>exact .tuple_str b t h aW
 |lst h q=>
  cases y with
  |tup h' q'=>exact .list_tuple h h' aW
  |lst h' q'=>exact j5 h h' q q' aW (el (by simp[dep]))
  |fix h' q'=>exact j5 h h' q q' aW (el (by simp[dep]))
  |non=>exact .list_none h aW
  |bl b=>exact .list_bool b h aW
  |int b t=>exact .list_int b t h aW
  |str b t=>exact .list_str b t h aW
 |fix h q=>
  cases y with
  |tup h' q'=>exact .list_tuple h h' aW
  |lst h' q'=>exact j5 h h' q q' aW (el (by simp[dep]))
  |fix h' q'=>exact j5 h h' q q' aW (el (by simp[dep]))
  |non=>exact .list_none h aW
  |bl b=>exact .list_bool b h aW
  |int b t=>exact .list_int b t h aW
  |str b t=>exact .list_str b t h aW
 |non=>
  cases y with
  |non=>exact .none_none
  |bl c'=>exact .none_bool c'
  |int c' t'=>exact .none_int c' t'
  |str c' t'=>exact .none_str c' t'
  |tup h' q'=>exact .none_tuple h' aW
  |lst h' q'=>exact .none_list h' aW
  |fix h' q'=>exact .none_list h' aW
 |bl c=>
  cases y with
  |non=>exact .bool_none c
  |bl c'=>exact .bool_bool c c'
  |int c' t'=>exact .bool_int c c' t'
  |str c' t'=>exact .bool_str c c' t'
  |tup h' q'=>exact .bool_tuple c h' aW
  |lst h' q'=>exact .bool_list c h' aW
  |fix h' q'=>exact .bool_list c h' aW
 |int c t=>
  cases y with
  |non=>exact .int_none c t
  |bl c'=>exact .int_bool c t c'
  |int c' t'=>exact .int_int c t c' t'
  |str c' t'=>exact .int_str c t c' t'
  |tup h' q'=>exact .int_tuple c t h' aW
  |lst h' q'=>exact .int_list c t h' aW
  |fix h' q'=>exact .int_list c t h' aW
 |str c t=>
  cases y with
  |non=>exact .str_none c t
  |bl c'=>exact .str_bool c t c'
  |int c' t'=>exact .str_int c t c' t'
  |str c' t'=>exact .str_str c t c' t'
  |tup h' q'=>exact .str_tuple c t h' aW
  |lst h' q'=>exact .str_list c t h' aW
  |fix h' q'=>exact .str_list c t h' aW
theorem Xe(hK:z.K=X.K)(p1:iZ d1=true)(p2:iZ d2=true)(hd:X.A.units+dep d1<cLine):mF X z (compareOp .NotEq) d1 d2 (.dat (.bl (!cP d1 d2))):=by
 refine⟨Rf z d1 d2 (!cP d1 d2),?_,λg Y As M H v1 v2 Q s q1 q2 kk=>⟨⟨M,q1,q2⟩,kk _ H As M s (az.refl _ _) (.bl _)⟩⟩
 intro L s Y H x y v u Q I rx ry h;obtain⟨⟨M,q1,q2⟩,q⟩:=h;rw[hK]at q1 q2;exact Xd (q1.dv I rx p1) (q2.dv I ry p2) hd X.prog X.w X.xe _ ⟨.bl _,H,I,rfl,q⟩
theorem Fo(q:Dv h d u):∀d' x,Dv h d' u->cP d x=cP d' x:=by
 have two:∀{l l':List D} (x:D),(∀m,dB l m=dB l' m)->cP (.lst l) x=cP (.lst l') x/\cP (.fix l) x=cP (.lst l') x/\cP (.lst l) x=cP (.fix l') x/\cP (.fix l) x=cP (.fix l') x:=λx k=>by
  cases x with
  |lst m=>exact⟨k m,k m,k m,k m⟩
  |fix m=>exact⟨k m,k m,k m,k m⟩
  |_=>exact⟨rfl,rfl,rfl,rfl⟩
 refine Dv.rec (motive_1:=λd u _=>∀d' x,Dv h d' u->cP d x=cP d' x) (motive_2:=λl us _=>∀l' m,nB h l' us->dB l m=dB l' m) ?_ ?_ ?_ ?_ ?_ ?_ ?_ ?_ ?_ q
 . intro d' x q;cases q;rfl
 . intro b d' x q;cases q;rfl
 . intro i t d' x q;cases q;rfl
 . intro y t d' x q;cases q;rfl
 .
  intro l a us k _ ih d' x q;cases q with
  |tup y q'=>
   cases rm k y;cases x with
   |tup m=>exact ih _ m q'
   |_=>rfl
  |lst y _=>exact (eo k y).elim
  |fix y _=>exact (eo k y).elim
 .
  intro l a us k _ ih d' x q;cases q with
  |tup y _=>exact (eo y k).elim
  |lst y q'=>cases cJ k y;exact (two x λm=>ih _ m q').1
  |fix y q'=>cases cJ k y;exact (two x λm=>ih _ m q').2.2.1
 .
  intro l a us k _ ih d' x q;cases q with
  |tup y _=>exact (eo y k).elim
  |lst y q'=>cases cJ k y;exact (two x λm=>ih _ m q').2.1
  |fix y q'=>cases cJ k y;exact (two x λm=>ih _ m q').2.2.2
 . intro l' m q;cases q;rfl
 .
  intro d ds u us _ _ i1 i2 l' m q;cases q with
  |@cons d' l' _ _ b q'=>cases m with
   |nil=>rfl
   |cons y m=>show (cP d y&&dB ds m)=(cP d' y&&dB l' m);rw[i1 _ y b,i2 _ m q']
theorem KN(x:D)(q:Dv h d u)(q':Dv h d' u):cP d x=cP d' x:=Fo q d' x q'
open Classical in
def mG(h:Heap)(x:D)(u:Value):Bool:=decide (∃d,Dv h d u/\cP d x=true)
open Classical in
theorem xU(q:Dv h d u):mG h x u=cP d x:=by
 unfold mG;cases e:cP d x with
 |true=>exact l7 ⟨d,q,e⟩
 |false=>refine pV ?_;rintro⟨d',q',e'⟩;rw[KN x q' q,e]at e';cases e'
theorem jc(q:nB h l us):us.any (mG h x)=l.any λd=>cP d x:=by
 induction l generalizing us with
 |nil=>cases q;rfl
 |cons d l ih=>cases q with |cons a b=>rw[List.any_cons,List.any_cons,xU a,ih b]
def Xf(z:Z)(d1 d2:D)(b:Bool):R2:=Rf z d1 d2 b
theorem gY{A:Around}{s:Shared}{x:D}{u:Value}{l:List D}{us:List Value}(q:nB s.heap l us)(hx:Dv s.heap x u)(hu:A.units+deps l+1<cLine):∀y,y∈us.toArray->SeqAt.EqAt A.in1 s y u (mG s.heap x y):=by
 intro y hy;have hy':y∈us:=by simpa using hy
 obtain⟨j,hj⟩:=List.getElem?_of_mem hy';obtain⟨d,e,qd⟩:=q.get hj;rw[xU qd];have:=oO e;exact (Fj (dep d) (eD _) qd hx (by rw[in1_units];lia)).1
noncomputable def bx:D->Option (List D)
 |.lst l=>some l
 |.tup l=>some l
 |.fix l=>some l
 |_=>none
theorem Xg(hK:z.K=X.K)(hs:bx d2=some l)(p1:iZ d1=true)(p2:fS l=true)(hd:X.A.units+deps l+1<cLine):mF X z (compareOp .In) d1 d2 (.dat (.bl (l.any λd=>cP d d1))):=by
 refine⟨Xf z d1 d2 (l.any λd=>cP d d1),?_,λg Y As M H v1 v2 Q s q1 q2 kk=>⟨⟨M,q1,q2⟩,kk _ H As M s (az.refl _ _) (.bl _)⟩⟩
 intro L s Y H x y v u Q I rx ry h;obtain⟨⟨M,q1,q2⟩,q⟩:=h;rw[hK]at q1 q2;have hx:=q1.dv I rx p1;cases d2 with
 |lst m=>
  cases hs;obtain⟨a,xs,rfl,ha,rr⟩:=q2.list;cases ry;obtain⟨its,rv,pl,hz⟩:=I.list (cB.of ha);have fB:=rr.dv I rv p2;refine SeqAt.in_listAt (mG s.heap d1) pl.isList (gY fB hx hd) ⟨.bl _,H,I,rfl,?_⟩;rw[show its.toArray.any (mG s.heap d1)=its.any (mG s.heap d1)by simp,jc fB]
  exact q
 |fix m=>
  cases hs;obtain⟨a,xs,rfl,ha,rr⟩:=q2.fix;cases ry;obtain⟨its,rv,pl,hz⟩:=I.list ha.sq;have fB:=rr.dv I rv p2;refine SeqAt.in_listAt (mG s.heap d1) pl.isList (gY fB hx hd) ⟨.bl _,H,I,rfl,?_⟩;rw[show its.toArray.any (mG s.heap d1)=its.any (mG s.heap d1)by simp,jc fB]
  exact q
 |tup m=>
  cases hs;obtain⟨a,xs,rfl,ha,rr⟩:=q2.tup;cases ry;obtain⟨its,rv,pl,hz⟩:=I.tuple ha.sq;have fB:=rr.dv I rv p2;refine SeqAt.in_tupleAt (mG s.heap d1) pl (gY fB hx hd) ⟨.bl _,H,I,rfl,?_⟩;rw[show its.toArray.any (mG s.heap d1)=its.any (mG s.heap d1)by simp,jc fB]
  exact q
 |_=>cases hs
theorem Fp(hK:z.K=X.K)(hs:bx d2=some l)(p1:iZ d1=true)(p2:fS l=true)(hd:X.A.units+deps l+1<cLine):mF X z (compareOp .NotIn) d1 d2 (.dat (.bl (!l.any λd=>cP d d1))):=by
 refine⟨Xf z d1 d2 (!l.any λd=>cP d d1),?_,λg Y As M H v1 v2 Q s q1 q2 kk=>⟨⟨M,q1,q2⟩,kk _ H As M s (az.refl _ _) (.bl _)⟩⟩
 intro L s Y H x y v u Q I rx ry h;obtain⟨⟨M,q1,q2⟩,q⟩:=h;rw[hK]at q1 q2;have hx:=q1.dv I rx p1;cases d2 with
 |lst m=>
  cases hs;obtain⟨a,xs,rfl,ha,rr⟩:=q2.list;cases ry;obtain⟨its,rv,pl,hz⟩:=I.list (cB.of ha);have fB:=rr.dv I rv p2;refine SeqAt.notIn_listAt (mG s.heap d1) pl.isList (gY fB hx hd) ⟨.bl _,H,I,rfl,?_⟩;rw[show its.toArray.any (mG s.heap d1)=its.any (mG s.heap d1)by simp,jc fB]
  exact q
 |fix m=>
  cases hs;obtain⟨a,xs,rfl,ha,rr⟩:=q2.fix;cases ry;obtain⟨its,rv,pl,hz⟩:=I.list ha.sq;have fB:=rr.dv I rv p2;refine SeqAt.notIn_listAt (mG s.heap d1) pl.isList (gY fB hx hd) ⟨.bl _,H,I,rfl,?_⟩;rw[show its.toArray.any (mG s.heap d1)=its.any (mG s.heap d1)by simp,jc fB]
  exact q
 |tup m=>
  cases hs;obtain⟨a,xs,rfl,ha,rr⟩:=q2.tup;cases ry;obtain⟨its,rv,pl,hz⟩:=I.tuple ha.sq;have fB:=rr.dv I rv p2;refine SeqAt.notIn_tupleAt (mG s.heap d1) pl (gY fB hx hd) ⟨.bl _,H,I,rfl,?_⟩;rw[show its.toArray.any (mG s.heap d1)=its.any (mG s.heap d1)by simp,jc fB]
  exact q
 |_=>cases hs
theorem Rg(h:l.length+m.length<=16777216):mF X z (binaryOp .Add) (.lst l) (.lst m) (.new (l++m)):=by
 refine⟨_,Qy,λg Y As M H v1 v2 Q s q1 q2 kk=>?_⟩
 obtain⟨a,xs,rfl,ha,ra⟩:=q1.list;obtain⟨b,ys,rfl,hb,rb⟩:=q2.list;refine⟨a,b,xs,ys,rfl,rfl,ha,hb,by rw[<- ra.length,<- rb.length];exact oK h,λp hp=>?_⟩
 exact kk _ _ As (p::M) (s.aV hp) (az.aV hp) ⟨p,_,rfl,c8,λhA=>s.fresh hp (s.sub p hA),s.cH hp,aG,(ra.append rb).stay (az.aV hp)⟩
theorem Rh(h1 : -(2 ^ 63)<=k)(h2:k<2 ^ 63)(h:l.length * k.toNat<=16777216):mF X z (binaryOp .Mult) (.lst l) (.int k) (.new (List.replicate k.toNat l).flatten):=by
 refine⟨_,Qz,λg Y As M H v1 v2 Q s q1 q2 kk=>?_⟩
 obtain⟨a,xs,rfl,ha,ra⟩:=q1.list;have rr:∀n,aI z.K M H (List.replicate n l).flatten (List.replicate n xs).flatten:=λn=>by
  induction n with
  |zero=>simp;exact .nil
  |succ n ih=>rw[oI,oI,tP,tP];exact ra.append ih
 refine⟨a,k,xs,rfl,q2.int,ha,h1,h2,by rw[<- ra.length];exact oK h,λp hp=>?_⟩
 exact kk _ _ As (p::M) (s.aV hp) (az.aV hp) ⟨p,_,rfl,c8,λhA=>s.fresh hp (s.sub p hA),s.cH hp,aG,(rr _).stay (az.aV hp)⟩
def Ri(K:Frag):R2:=λx y H Q=>∃a b xs ys,x=.ref a/\y=.ref b/\fV K H a xs/\fV K H b ys/\xs.length+ys.length<=sizeLine/\
 (xs=[]->Q (.ref b) H)/\(xs≠[]->ys=[]->Q (.ref a) H)/\(xs≠[]->ys≠[]->∀p,H p=none->Q (.ref p) (upd H p (.tup (xs++ys))))
theorem Fq:kN X (binaryOp .Add) (Ri X.K):=by
 intro L s Y H x y v u Q I rx ry h;obtain⟨a,b,xs,ys,rfl,rfl,ha,hb,hz,q0,q1,q2⟩:=h;by_cases hx:xs=[]
 .
  subst hx;cases rx;cases ry;obtain⟨its,r1,p1,_⟩:=I.tuple ha;obtain⟨g8,r2,p2,_⟩:=I.tuple hb;cases r1;obtain⟨⟨cls,dd,data,sl⟩,ho,hc,n,hd⟩:=id p1;obtain⟨⟨Wz,dd2,data2,sl2⟩,ho2,hc2,n2,hd2⟩:=id p2;simp only at hc hd hc2 hd2;subst hc hd hc2 hd2;exact concat_meets ⟨_,ho,rfl⟩ ⟨_,ho2,rfl⟩ noFill_tuple_add seq_tuple_add B3 BN (BF _ _)
   (tuple_addW0 a b #[] g8.toArray n n2 dd dd2 sl sl2 ⋯) ⟨ho,ho2,⟨.ref b,H,I,rfl,q0 rfl⟩⟩
 . exact Kf L s Y H (.ref a) (.ref b) v u Q I rx ry ⟨a,b,xs,ys,rfl,rfl,ha,hb,hx,hz,q1 hx,q2 hx⟩
theorem KQ(hK:z.K=X.K)(h:l.length+m.length<=16777216):mF X z (binaryOp .Add) (.tup l) (.tup m) (.dat (.tup (l++m))):=by
 refine⟨_,Fq,λg Y As M H v1 v2 Q s q1 q2 kk=>?_⟩
 obtain⟨a,xs,rfl,ha,ra⟩:=q1.tup;obtain⟨b,ys,rfl,hb,rb⟩:=q2.tup;have la:=ra.length;have lb:=rb.length;refine⟨a,b,xs,ys,rfl,rfl,hK▸ha.sq,hK▸hb.sq,by rw[<- la,<- lb];exact oK h,λe=>?_,λe1 e2=>?_,λe1 e2 p hp=>?_⟩
 .
  subst e;cases l with
  |nil=>exact kk _ H As M s (az.refl _ _) (.tup hb rb)
  |cons _ _=>simp at la
 .
  subst e2;cases m with
  |nil=>rw[n0]at kk;exact kk _ H As M s (az.refl _ _) (.tup ha ra)
  |cons _ _=>simp at lb
 . exact kk _ _ As M (s.laid hp) (az.laid hp) (.tup (.inl ⟨s.fresh hp,.inl aG⟩) ((ra.append rb).stay (az.laid hp)))
theorem oU{K:Frag}{M:List Addr}{H:Hp}{l:List D}{xs:List V}{i:Int}{d:D}(r:aI K M H l xs)(h:eU l i=some d):∃v,eU xs i=some v/\Rep K M H d v:=by
 unfold eU at h ⊢
 rw[<- r.length];cases e:nk l.length i with
 |none=>rw[e]at h;symm
 |some j=>rw[e]at h;have h':l[j]?=some d:=h;obtain⟨v,h1,h2⟩:=r.get h';exact⟨v,h1,h2⟩
theorem Rj{l:List D}{i:Int}{d:D}(hK:z.K=X.K)(h:eU l i=some d):Vf X z (.lst l) (.int i) (.dat d):=by
 refine⟨_,sQ,λg Y As M H v1 v2 Q s q1 q2 kk=>?_⟩
 obtain⟨a,xs,rfl,ha,ra⟩:=q1.list;obtain⟨v,e,r⟩:=oU ra h;exact⟨a,xs,i,v,rfl,q2.int,cB.of ha,e,kk _ H As M s (az.refl _ _) r⟩
theorem Rk{l:List D}{i:Int}{d:D}(hK:z.K=X.K)(h:eU l i=some d):Vf X z (.fix l) (.int i) (.dat d):=by
 refine⟨_,sQ,λg Y As M H v1 v2 Q s q1 q2 kk=>?_⟩
 obtain⟨a,xs,rfl,ha,ra⟩:=q1.fix;obtain⟨v,e,r⟩:=oU ra h;exact⟨a,xs,i,v,rfl,q2.int,hK▸ha.sq,e,kk _ H As M s (az.refl _ _) r⟩
theorem KR{l:List D}{i:Int}{d:D}(hK:z.K=X.K)(h:eU l i=some d):Vf X z (.tup l) (.int i) (.dat d):=by
 refine⟨_,Qu,λg Y As M H v1 v2 Q s q1 q2 kk=>?_⟩
 obtain⟨a,xs,rfl,ha,ra⟩:=q1.tup;obtain⟨v,e,r⟩:=oU ra h;exact⟨a,xs,i,v,rfl,q2.int,hK▸ha.sq,e,kk _ H As M s (az.refl _ _) r⟩
noncomputable def aR:List D->Option (~~~0)
 | []=>some []
 |.int i::l=>match aR l with |some ns=>some (i::ns) |none=>none
 |_::_=>none
theorem aU{K:Frag}{M:List Addr}{H:Hp}{l:List D}{xs:List V}{ns: ~~~0}(q:aI K M H l xs)(e:aR l=some ns):xs=ns.map V.int:=by
 induction l generalizing xs ns with
 |nil=>cases q;cases e;rfl
 |cons d l ih=>cases q with |cons r q=>cases d with
  |int i=>
   have e:(match aR l with |some ns=>some (i::ns) |none=>none)=some ns:=e
   cases e2:aR l with
   |none=>rw[e2]at e;cases e
   |some ns=>rw[e2]at e;cases e;cases r;rw[List.map_cons,ih q e2]
  |_=>cases e
theorem Rl{l m:List D}{ns ms: ~~~0}(hK:z.K=X.K)(hu:X.A.units<cLine)(h1:aR l=some ns)(h2:aR m=some ms):mF X z (compareOp .Lt) (.tup l) (.tup m) (.dat (.bl (HT.lexLt ns ms))):=by
 refine⟨_,Qt hu,λg Y As M H v1 v2 Q s q1 q2 kk=>?_⟩
 obtain⟨a,xs,rfl,ha,ra⟩:=q1.tup;obtain⟨b,ys,rfl,hb,rb⟩:=q2.tup;have e1:=aU ra h1;have e2:=aU rb h2;subst e1 e2;exact⟨a,b,ns,ms,rfl,rfl,hK▸ha.sq,hK▸hb.sq,kk _ H As M s (az.refl _ _) (.bl _)⟩
theorem Rm:UnD X z (unaryOp .USub) (.int i) (.dat (.int (-i))):=⟨_,Ej,λg Y As M H v Q s p k=>⟨i,p.int,k _ H As M s (az.refl _ _) (.int _)⟩⟩
end
section
theorem KH.one{K:Frag}{M:List Addr}{H:Hp}{d:D}{vs:List V}(h:KH K M H [d] vs):∃v,vs=[v]/\Pk K M H d v:=by cases h with |cons p q=>cases q;exact⟨_,rfl,p⟩
theorem KH.two{K:Frag}{M:List Addr}{H:Hp}{d e:D}{vs:List V}(h:KH K M H [d,e] vs):∃v w,vs=[v,w]/\Pk K M H d v/\Pk K M H e w:=by cases h with |cons p q=>cases q with |cons p' q'=>cases q';exact⟨_,_,rfl,p,p'⟩
noncomputable def Xh:D->Option Nat
 |.lst l=>some l.length
 |.tup l=>some l.length
 |.fix l=>some l.length
 |_=>none
theorem Ro{d:D}{n:Nat}(hK:z.K=X.K)(h:Xh d=some n):CallD X z (.builtin "len") [d] ‹n›:=by
 refine⟨_,El,λg Y As M H vs Q s p k=>?_⟩
 obtain⟨v,rfl,pv⟩:=p.one;refine⟨v,n,rfl,?_,k _ H As M s (az.refl _ _) (.int _)⟩;cases d with
 |lst l=>symm;obtain⟨a,xs,rfl,ha,r⟩:=pv.list;exact .inl ⟨xs,cB.of ha,r.length⟩
 |fix l=>symm;obtain⟨a,xs,rfl,ha,r⟩:=pv.fix;exact .inl ⟨xs,hK▸ha.sq,r.length⟩
 |tup l=>symm;obtain⟨a,xs,rfl,ha,r⟩:=pv.tup;exact .inr ⟨xs,hK▸ha.sq,r.length⟩
 |_=>symm
theorem KS{d:D}{l:List D}(hK:z.K=X.K)(h:bx d=some l):CallD X z (.type "list") [d] (.new l):=by
 refine⟨_,sU,λg Y As M H vs Q s p k=>?_⟩
 obtain⟨v,rfl,pv⟩:=p.one;have fin:∀xs,aI z.K M H l xs->∀p,H p=none->Q (.ref p) (upd H p (.lst xs)):=λxs r p hp=>
  k _ _ As (p::M) (s.aV hp) (az.aV hp) ⟨p,xs,rfl,c8,λhA=>s.fresh hp (s.sub p hA),s.cH hp,aG,r.stay (az.aV hp)⟩
 cases d with
 |lst m=>symm;obtain⟨a,xs,rfl,ha,r⟩:=pv.list;exact⟨a,xs,rfl,.inl (cB.of ha),fin xs r⟩
 |fix m=>symm;obtain⟨a,xs,rfl,ha,r⟩:=pv.fix;exact⟨a,xs,rfl,.inl (hK▸ha.sq),fin xs r⟩
 |tup m=>symm;obtain⟨a,xs,rfl,ha,r⟩:=pv.tup;exact⟨a,xs,rfl,.inr (hK▸ha.sq),fin xs r⟩
 |_=>symm
theorem Ft{d:D}{l:List D}(hK:z.K=X.K)(h:bx d=some l):CallD X z (.type "tuple") [d] (.dat (.tup l)):=by
 refine⟨_,qC,λg Y As M H vs Q s p k=>?_⟩
 obtain⟨v,rfl,pv⟩:=p.one;have fin:∀xs,aI z.K M H l xs->∀p,H p=none->Q (.ref p) (upd H p (.tup xs)):=λxs r p hp=>
  k _ _ As M (s.laid hp) (az.laid hp) (.tup (.inl ⟨s.fresh hp,.inl aG⟩) (r.stay (az.laid hp)))
 cases d with
 |lst m=>symm;obtain⟨a,xs,rfl,ha,r⟩:=pv.list;exact⟨a,xs,rfl,.inl ⟨cB.of ha,fin xs r⟩⟩
 |fix m=>symm;obtain⟨a,xs,rfl,ha,r⟩:=pv.fix;exact⟨a,xs,rfl,.inl ⟨hK▸ha.sq,fin xs r⟩⟩
 |tup m=>symm;obtain⟨a,xs,rfl,ha,r⟩:=pv.tup;exact⟨a,xs,rfl,.inr ⟨hK▸ha.sq,k _ H As M s (az.refl _ _) (.tup ha r)⟩⟩
 |_=>symm
theorem Rp{i j:Int}(hc:X.calm=true):CallD X z (.builtin "max") [.int i,.int j] (.dat (.int (if j > i then j else i))):=by
 refine⟨_,Az hc,λg Y As M H vs Q s p k=>?_⟩
 obtain⟨v,w,rfl,p1,p2⟩:=p.two;exact⟨i,j,by rw[p1.int,p2.int],k _ H As M s (az.refl _ _) (.int _)⟩
theorem Rq{i j:Int}(hc:X.calm=true):CallD X z (.builtin "min") [.int i,.int j] (.dat (.int (if j<i then j else i))):=by
 refine⟨_,Ba hc,λg Y As M H vs Q s p k=>?_⟩
 obtain⟨v,w,rfl,p1,p2⟩:=p.two;exact⟨i,j,by rw[p1.int,p2.int],k _ H As M s (az.refl _ _) (.int _)⟩
end
section
theorem oV(hc:X.calm=true):fz X (.builtin "all") (λxs H Q=>∃(p:Addr) (bs:List Bool),xs=[.ref p]/\cB X.K H p (bs.map V.bl)/\Q (.bl (bs.all id)) H):=by
 intro L s Y H xs us Q I r h;obtain⟨p,bs,rfl,hp,q⟩:=h;obtain⟨u,rfl,rx⟩:=vals1 r;cases rx;obtain⟨its,rv,pl,hz⟩:=I.list hp;have hlt:p<s⁻¹:=by obtain⟨_,e,_⟩:=pl.isList;exact eR e
 have aL:its.length=bs.length:=by rw[<- rv.length,eA]
 have up:∀b o,s.heap.get? b=some o->(s.heap.push { cls:=.type "list_iterator",data:=.fields #[.ref p,.int 0 0]}).get? b=some o:=λb o e=>b0 _ e
 refine call_all_walk (AK pl.isList ?_);refine⟨s⁻¹,_,_,_,_,_,λi=>bs.getD i true,rfl,Walks.list (A:=X.A.in1) (show X.A.in1.handled=none from I.ok.hd hc) s⁻¹ p (l4 hlt) its.toArray,⟨⟨_,eJ _ rfl,rfl,rfl⟩,pl.isList.push _⟩,?_,λh' tk hk=>?_⟩
 .
  intro i v s' Q' E' hv hq;have hv':its[i]?=some v:=by simpa using hv
  have hi:i<bs.length:=by rw[<- aL];exact (dA.mp hv').1
  obtain⟨w,e1,e2⟩:=rv.get (i:=i) (x:=V.bl bs[i]) (by simp[hi])
  rw[hv']at e1;cases e1;cases e2;refine nV ?_;have:bs.getD i true=bs[i]:=by simp[List.getD,hi]
  rw[<- this];exact hq
 .
  have I1:L2.Inv X L Y H { s with heap:=h',toks:=tk}:=I.kept λb o e=>hk b o (λhm=>by
   have:b=s⁻¹:=by simpa using hm
   exact absurd (eR e) (by rw[this];exact mP _)) (up b o e)
  refine⟨.bl (bs.all id),H,I1,?_,q⟩;have e:(List.range its.toArray.size).all (λi=>bs.getD i true)=bs.all id:=by
   rw[dC,aL];rw[At];simp only[eM,mI,id];constructor
   . intro h b hb;obtain⟨j,hj⟩:=List.getElem?_of_mem hb;have hj':=(dA.mp hj).1;have:=h j hj';simpa [List.getD,hj]using this
   . intro h i hi;have:=h bs[i] (CH hi);simpa [List.getD,hi]using this
  rw[e];rfl
noncomputable def vj:List D->Option (List Bool)
 | []=>some []
 |.bl b::l=>match vj l with |some bs=>some (b::bs) |none=>none
 |_::_=>none
theorem Fv{K:Frag}{M:List Addr}{H:Hp}{l:List D}{xs:List V}{ns:List Bool}(q:aI K M H l xs)(e:vj l=some ns):xs=ns.map V.bl:=by
 induction l generalizing xs ns with
 |nil=>cases q;cases e;rfl
 |cons d l ih=>cases q with |cons r q=>cases d with
  |bl i=>
   have e:(match vj l with |some ns=>some (i::ns) |none=>none)=some ns:=e
   cases e2:vj l with
   |none=>rw[e2]at e;cases e
   |some ns=>rw[e2]at e;cases e;cases r;rw[List.map_cons,ih q e2]
  |_=>cases e
theorem Rr{l:List D}{bs:List Bool}(hc:X.calm=true)(h:vj l=some bs):CallD X z (.builtin "all") [.lst l] (.dat (.bl (bs.all id))):=by
 refine⟨_,oV hc,λg Y As M H vs Q s p k=>?_⟩
 obtain⟨v,rfl,pv⟩:=p.one;obtain⟨a,xs,rfl,ha,r⟩:=pv.list;have e:=Fv r h;subst e;exact⟨a,bs,rfl,cB.of ha,k _ H As M s (az.refl _ _) (.bl _)⟩
end
noncomputable def vn:D->String
 |.non=> "NoneType" |.bl _=> "bool" |.int _=> "int" |.str _=> "str" |.tup _=> "tuple" |.lst _=> "list" |.fix _=> "list" |.emp=> "dict" |.Dy _=> "" |.vg ..=> "dict"
def Zx:D->Value
 |.Dy C=>.ref C
 |d=>.type (vn d)
theorem Bq{M:Model}{A:Around}{E:Value->Shared->Prop}{K:Frag}{x C:Addr}{ox:Obj}{nv:Value}{Q:Unit->Shared->Prop}{s:Shared}(X:K.In s.heap)(I:PySem.W.InstAt s.heap x ox C none)(hb:PySem.W.mroIn K C (.type "BaseException")=some true)(hq:Q () s) :
  wpAny M A (checkBuiltinCall "BaseException.__getattribute__" ⟨[.ref x,nv],[]⟩) Q E s:=by
 have kd:builtinKind "BaseException.__getattribute__"=some .slot:=by decide +kernel
 have sd:splitId "BaseException.__getattribute__"=some ("BaseException", "__getattribute__"):=by decide +kernel
 have ha:=F.args_bexc_ga (.ref x) nv;obtain⟨hv,ge,dr,tk,o'⟩:=s;have l0:=I.type (M:=M);have l1:=PySem.W.looks_mroIn (M:=M) X hb;simp only[checkBuiltinCall,kd,sd];unfold isInstance;refine aS (aS (l0.at (l1.at ?_)))
 repeat (any_goals (first |assumption |wp_step))
theorem Fw{prog:Program}{w:World}{A:Around}{E:Value->Shared->Prop}{K:Frag}{x C:Addr}{ox:Obj}{name:Str}{g a:Value}{Q:Option Value->Shared->Prop}{s:Shared}(X:K.In s.heap)(I:PySem.W.InstAt s.heap x ox C none)
  (hga:PySem.W.findIn K (.ref C) "__getattribute__"=some (some (.builtin "BaseException.__getattribute__"))) (hk:PySem.W.findIn K (.ref C) "__getattr__"=some none) (hb:PySem.W.mroIn K C (.type "BaseException")=some true) (hf:PySem.W.findObj K C none name=some (.bind g a))
  (h:wpAny (model prog w) A.in1 (call g [a,.ref x,.ref C]) (λv s'=>wpAny (model prog w) A (handedOut v) (λv s''=>Q (some v) s'') (λ_ _=>False) s') (λ_ _=>False) { s with toks:=s.toks+1}) :
  wpAny (model prog w) A (getAttr? (.ref x) name) Q E s:=by
 obtain⟨hv,ge,dr,tk,o'⟩:=s;have l0:=I.type (M:=model prog w);have l1:=PySem.W.looks_findIn (M:=model prog w) X hga;have l2:=PySem.W.looks_findIn (M:=model prog w) X hk;have l3:=PySem.W.looks_find (M:=model prog w) X I hf;have f3:=F.excAttr_ValueError.ga.bind (.ref x);unfold getAttr? getAttrBy? getAttrBy;refine aS (wpAny_mkText (aS (wpAny_attempt (lL (aS (l0.at (aS (l1.at ?_))))))));show wpAny _ _ (getAttrByItsOwn _ _ _ _ _ _) _ _ _;unfold getAttrByItsOwn;refine aS (l2.at (aS (wpAny_attempt (lL ?_))));show wpAny _ _ (boundAndCalled _ _ _) _ _ _;unfold boundAndCalled;rw[f3];refine aS (d5 (wpAny_call (codeAny_call_builtin F.excAttr_ValueError.ga.plain F.entry_bexc_ga (Bq X I hb ?_))));refine aS (d5 (aS (d5 (aS (l0.at (aS (l3.at ?_)))))));show wpAny _ _ (Builtin.ObjectAttr.bindTo _ _ _ _) _ _ _;show wpAny _ _ (holding [a] (call g [a,.ref x,.ref C]) >>= ret) _ _ _;refine aS (lL (nE h (λv s' z=>d5 ?_) λ_ _ z=>z.elim))
 exact nE z (λv s'' hv=>d5 hv) (λ_ _ z=>z.elim)
theorem lq{K:Frag}{C:Addr}(k:W4 K C):∃c d cd sl,K.lookup C=some ⟨c,d,.cls cd,sl⟩/\PySem.W.clsIn K C=some cd:=by
 obtain⟨cd,hc,_⟩:=PySem.W.any_some k.dct;have hc':=hc;unfold PySem.W.clsIn at hc;split at hc
 . rename_i c d cd' sl ho;cases hc;exact⟨c,d,cd,sl,ho,hc'⟩
 . cases hc
theorem Fy{K:Frag}{x C:Addr}(k:W4 K C):PySem.W.KitX K (.ref x) (.ref C) (λh=>∃ox,PySem.W.InstAt h x ox C none) where
 ty:=λ_ _ _ ⟨_,I⟩=>I.type
 it:=λ_ _ X _=>by
  obtain⟨c,d,cd,sl,ho,_⟩:=lq k;intro A' Q' E' s' kp q;unfold isType loadHead;refine aS ?_;refine wpAny_loadPart (kp _ _ (X _ _ ho)) ?_;exact d5 q
 ne:=λh tp dd its n sl X htp=>by
  obtain⟨c,d,cd,sl',ho,_⟩:=lq k;cases q:(Value.ref C==Value.ref tp)with
  |false=>rfl
  |true=>have e:C=tp:=Value.ref.inj (beq_iff_eq.mp q);subst e;have y:=(X _ _ ho).symm.trans htp;cases y
 ca:=λ{prog w A E Q s} X ⟨ox,I⟩ h=>by
  obtain⟨_,_,cd,_,_,hc⟩:=lq k;have hf:PySem.W.findObj K C none "__class__"=some (.bind (.builtin "getset_descriptor.__get__") (.builtin "object.__class__")):=by unfold PySem.W.findObj;rw[hc,Option.bind_some,k.cls,Option.bind_some];simp[k.spc,k.tks]
  refine Fw X I k.gga k.gat k.bas hf (wpAny_call ?_);exact PySem.W.class_get (s:={ s with toks:=s.toks+1}) (ox:=ox) (od:=none) X I k.mro (PySem.W.handed_on rfl h)
section
theorem Rt(I:L2.Inv X L Y H s)(p:Pk X.K M H d v)(r:RelV v u)
  (e:PySem.W.kitOne X.K (Zx d) c=some b) (h:∀tk,Q (.bool b) { s with toks:=tk}):wpAny (~~~2) A (call (.builtin "isinstance") [u,c]) Q E s:=by
 cases d with
 |non=>have q:=p.non;subst q;cases r;exact t8 PySem.W.kitx_none I.uT True.intro e (λz=>nomatch z) h
 |bl y=>have q:=p.bl;subst q;cases r;exact t8 PySem.W.kitx_bool I.uT True.intro e (λz=>nomatch z) h
 |int i=>have q:=p.int;subst q;obtain⟨t,rfl⟩:=r;exact t8 PySem.W.kitx_int I.uT True.intro e (λz=>nomatch z) h
 |str y=>have q:=p.str;subst q;obtain⟨t,rfl⟩:=r;exact t8 PySem.W.kitx_str I.uT True.intro e (λz=>nomatch z) h
 |tup l=>obtain⟨a,xs,rfl,ha,_⟩:=p.tup;cases r;obtain⟨its,_,⟨o,h1,h2,_⟩,_⟩:=I.tuple ha.sq;exact t8 PySem.W.kitx_tuple I.uT ⟨o,h1,h2⟩ e (λz=>nomatch z) h
 |lst l=>obtain⟨a,xs,rfl,ha,_⟩:=p.list;cases r;obtain⟨its,_,pl,_⟩:=I.list (cB.of ha);obtain⟨o,h1,h2,_⟩:=pl.isList;exact t8 PySem.W.kitx_list I.uT ⟨o,h1,h2⟩ e (λz=>nomatch z) h
 |fix l=>obtain⟨a,xs,rfl,ha,_⟩:=p.fix;cases r;obtain⟨its,_,pl,_⟩:=I.list ha.sq;obtain⟨o,h1,h2,_⟩:=pl.isList;exact t8 PySem.W.kitx_list I.uT ⟨o,h1,h2⟩ e (λz=>nomatch z) h
 |emp=>
  cases p with
  |of q=>
   cases q with
   |emp _ ha=>cases r;obtain⟨_,_,vs,_,o,es,ep,h1,h2,_⟩:=I.hok _ _ ha;exact t8 PySem.W.kitx_dict I.uT ⟨o,h1,h2.1⟩ e (λz=>nomatch z) h
 |Dy C=>
  cases p with
  |of q=>
   cases q with
   |Dy k _ ha=>cases r;obtain⟨⟨o,h1,h2,h3,h4⟩,_⟩:=I.hok _ _ ha;exact t8 (Fy k) I.uT ⟨o,h1,h2,h3,by rw[h4];trivial⟩ e (λz=>nomatch z) h
 |vg ks ds=>
  cases p with
  |of q=>
   cases q with
   |vg _ ha _ _=>cases r;obtain⟨_,_,vs,_,o,es,ep,h1,h2,_⟩:=I.hok _ _ ha;exact t8 PySem.W.kitx_dict I.uT ⟨o,h1,h2.1⟩ e (λz=>nomatch z) h
theorem Fz:fz X (.builtin "isinstance") (λxs H Q=>∃x n M d b,xs=[x,.ty n]/\Pk X.K M H d x/\PySem.W.kitOne X.K (Zx d) (.type n)=some b/\Q (.bl b) H):=by intro L s Y H xs us Q I r h;obtain⟨x,n,M,d,b,rfl,p,e,q⟩:=h;obtain⟨u,w',rfl,r1,r2⟩:=vals2 r;cases r2;exact Rt I p r1 e λtk=>⟨.bl b,H,I.tok tk,rfl,q⟩
theorem Ru(hK:z.K=X.K)(h:aA X z a g r1 g1)(hp:pk r1 g1=some d)(he:∀M H v,Pk X.K M H d v->PySem.W.kitOne X.K (Zx d) (.type n)=some b)
  (hg:Gl X "isinstance") (hm:X.mg "isinstance"=none) (hv:bootBuiltins "isinstance"=some (.builtin "isinstance")) (gT:Gl X T) (mT:X.mg T=none) (vT:bootBuiltins T=some (.type n)) (nT:T≠ "__name__") (dT:(T==(~~~3))=false)
  (hs:starEach [a,.Name T pT] X.env=(false,eval a X.env)::starEach [.Name T pT] X.env):aA X z (.Call (.Name "isinstance" p) [a,.Name T pT] [] pos) g (.dat (.bl b)) g1:=by
 obtain⟨t,q,k⟩:=h;have pT':PE X (.Name T pT) (tC (.ty n)):=JR gT mT vT rfl nT dT;refine⟨_,u9 Fz hg hm hv (iX q (iX pT' oh) hs) ⋯ ⋯ hs,λY As M H Q s kk=>k Y As M H _ s λv H' aF M' s' st R=>?_⟩
 have p:=hK▸s'.pk (az.refl _ _) R hp;exact⟨v,n,M',d,b,rfl,p,he _ _ _ p,kk _ H' aF M' s' st (.bl b)⟩
end
inductive Fl where
 |nx |rt (r:R) |bk |ct
def oW(z:Z)(M:List Addr)(H:Hp)(E:Ends)(g':G):Fl->Prop
 |.nx=>∀σ' aF M' H',S z g' σ' aF M' H'->az M H M' H'->E.nx σ' H'
 |.bk=>∀σ' aF M' H',S z g' σ' aF M' H'->az M H M' H'->E.bk σ' H'
 |.ct=>∀σ' aF M' H',S z g' σ' aF M' H'->az M H M' H'->E.ct σ' H'
 |.rt r=>∀v σ' aF M' H',S z g' σ' aF M' H'->az M H M' H'->fX z g' σ' aF M' H' r v->E.rt v H'
def iu(X:Cx)(z:Z)(st:Stmt)(g:G)(f:Fl)(g':G):Prop:=
 ∃t,PS X st t/\∀Y As M H E,S z g Y As M H->oW z M H E g' f->t E Y H
def fD(X:Cx)(z:Z)(uQ:List Stmt)(g:G)(f:Fl)(g':G):Prop:=
 ∃t,uL X uQ t/\∀Y As M H E,S z g Y As M H->oW z M H E g' f->t E Y H
section
variable{st:Stmt}
theorem oW.trans(st:az M H M1 H1)(h:oW z M H E g' f):oW z M1 H1 E g' f:=by
 cases f with
 |nx=>exact λσ' aF M' H' s' st'=>h σ' aF M' H' s' (st.trans st')
 |bk=>exact λσ' aF M' H' s' st'=>h σ' aF M' H' s' (st.trans st')
 |ct=>exact λσ' aF M' H' s' st'=>h σ' aF M' H' s' (st.trans st')
 |rt r=>exact λv σ' aF M' H' s' st' R=>h v σ' aF M' H' s' (st.trans st') R
theorem Rv:fD X z [] g .nx g:=⟨_,JT,λY As M H E s k=>k Y As M H s (az.refl _ _)⟩
theorem KY(h1:iu X z st g .nx g1)(h2:fD X z uQ g1 f g2):fD X z (st::uQ) g f g2:=by obtain⟨t1,q1,k1⟩:=h1;obtain⟨t2,q2,k2⟩:=h2;exact⟨_,gH q1 q2,λY As M H E s k=>k1 Y As M H _ s λσ' aF M' H' s' st'=>k2 σ' aF M' H' E s' (k.trans st')⟩
theorem Rx(h1:iu X z st g (.rt r) g1):fD X z (st::uQ) g (.rt r) g1:=by obtain⟨t1,q1,k1⟩:=h1;exact⟨_,gH q1 eZ,λY As M H E s k=>k1 Y As M H _ s k⟩
theorem Ry(h1:iu X z st g .bk g1):fD X z (st::uQ) g .bk g1:=by obtain⟨t1,q1,k1⟩:=h1;exact⟨_,gH q1 eZ,λY As M H E s k=>k1 Y As M H _ s k⟩
theorem Rz(h1:iu X z st g .ct g1):fD X z (st::uQ) g .ct g1:=by obtain⟨t1,q1,k1⟩:=h1;exact⟨_,gH q1 eZ,λY As M H E s k=>k1 Y As M H _ s k⟩
theorem RB(h:aA X z e g r g1):iu X z (.Return (some e) pos) g (.rt r) g1:=by obtain⟨t,q,k⟩:=h;exact⟨_,Ec q,λY As M H E s kk=>k Y As M H _ s λv H' aF M' s' st R=>kk v Y aF M' H' s' st R⟩
theorem KZ(h:aA X z e g r g1)(hs:swapsWith e none pos.line X.env=pure false):iu X z (.Expr e pos) g .nx g1:=by obtain⟨t,q,k⟩:=h;exact⟨_,zh q hs,λY As M H E s kk=>k Y As M H _ s λv H' aF M' s' st R=>kk Y aF M' H' s' st⟩
theorem Ol(h:dI X z c g v g1)(h2:fD X z (if v then a else b) g1 f g2):iu X z (.If c a b pos) g f g2:=by
 obtain⟨t,q,k⟩:=h;obtain⟨t2,q2,k2⟩:=h2;cases v with
 |true=>exact⟨_,Oa q q2 eZ,λY As M H E s kk=>k Y As M H _ s λH' aF M' s' st=>kW (k2 Y aF M' H' E s' (kk.trans st))⟩
 |false=>exact⟨_,Oa q eZ q2,λY As M H E s kk=>k Y As M H _ s λH' aF M' s' st=>qD (k2 Y aF M' H' E s' (kk.trans st))⟩
theorem K1(hN:X.N.Nodup)(hi:X.N[i]?=some x)(hx:Loc X.env.scope x)(h:aA X z e g (.dat d) g1)(hs:swapsWith e (some (.Name x pos')) pos.line X.env=pure false)(hf:X.fn x=true\/X.env.scope.names.lookup x=some .local)(hb:i∉z.bor) :
  iu X z (.Assign [.Name x pos'] e pos) g .nx (g1.set i (.dat d)):=by
 obtain⟨t,q,k⟩:=h;refine⟨_,Ed hN hi hx q hs hf,λY As M H E s kk=>k Y As M H _ s λv H' aF M' s' st R=>?_⟩
 obtain⟨bI,s2⟩:=s'.kZ (i:=i) hb R;exact kk _ bI M' H' s2 st
theorem K3(hN:X.N.Nodup)(hi:X.N[i]?=some x)(hx:Loc X.env.scope x)(h:aA X z e g (.new l) g1)(hl:i<g1.length)(hs:swapsWith e (some (.Name x pos')) pos.line X.env=pure false)(hf:X.fn x=true\/X.env.scope.names.lookup x=some .local)(hb:i∉z.bor) :
  iu X z (.Assign [.Name x pos'] e pos) g .nx (g1.set i (.own l)):=by
 obtain⟨t,q,k⟩:=h;refine⟨_,Ed hN hi hx q hs hf,λY As M H E s kk=>k Y As M H _ s λv H' aF M' s' st R=>?_⟩
 obtain⟨a,xs,rfl,hm,hA,h0,ha,rr⟩:=R;obtain⟨bI,s2⟩:=s'.oH hb hl hm hA h0 ha rr;exact kk _ bI M' H' s2 st
end
def tAny(X:Cx)(uQ:List Stmt):TS:=λE Y H=>∃t,uL X uQ t/\t E Y H
theorem zB{X:Cx}{uQ:List Stmt}:uL X uQ (tAny X uQ):=λL s Y H E I h=>let ⟨t,q,k⟩:=h;q L s Y H E I k
section
theorem drop_cons{α:Type}{l:List α}{n:Nat}{a:α}(h:l[n]?=some a):l.drop n=a::l.drop (n+1):=by obtain⟨h1,h2⟩:=dA.mp h;rw[List.drop_eq_getElem_cons h1,h2]
end
noncomputable def bK(lo:Int)(n:Nat):List D:=(List.range n).map λ(k:Nat)=>D.int (lo+(k:Int))
section
theorem FG{lo:Int}{n k:Nat}(h:k<n):(bK lo n)[k]?=some (.int (lo+(k:Int))):=by unfold bK;rw[tJ,C5 h];rfl
theorem vo{lo:Int}{n:Nat}:(bK lo n).length=n:=by unfold bK;simp
theorem Br(h:cZ X z [a] g [‹j›] g1)(hg:Gl X "range")(hm:X.mg "range"=none)(hs:starEach [a] X.env=[(false,eval a X.env)])(h1 : -(2 ^ 62)<=j)(h2:j<2 ^ 62) :
  ∃wi,PI X tg (.Call (.Name "range" p) [a] [] rp) wi/\∀Y As M H (Q:It->Hp->Prop),S z g Y As M H->(∀H' aF M',S z g1 Y aF M' H'->az M H M' H'->Q (Qg 0 j.toNat) H')->wi Y H Q:=by
 obtain⟨t,q,k⟩:=h;refine⟨_,qR hg hm q hs,λY As M H Q s kk=>k Y As M H _ s λvs H' aF M' s' st R=>?_⟩
 cases R with
 |dat r R=>cases R;cases r;exact⟨j,rfl,h1,h2,kk H' aF M' s' st⟩
theorem Bs(h:cZ X z [a,b] g [‹c›,‹j›] g1)(hg:Gl X "range")(hm:X.mg "range"=none)(hs:starEach [a,b] X.env=[(false,eval a X.env),(false,eval b X.env)])(hs2:starEach [b] X.env=[(false,eval b X.env)])
  (h1 : -(2 ^ 62)<=c/\c<2 ^ 62/\-(2 ^ 62)<=j/\j<2 ^ 62) {tg:Expr} :
  ∃wi,PI X tg (.Call (.Name "range" p) [a,b] [] rp) wi/\∀Y As M H (Q:It->Hp->Prop),S z g Y As M H->(∀H' aF M',S z g1 Y aF M' H'->az M H M' H'->Q (Qg c (j - c).toNat) H')->wi Y H Q:=by
 obtain⟨t,q,k⟩:=h;refine⟨_,Ax hg hm q hs hs2,λY As M H Q s kk=>k Y As M H _ s λvs H' aF M' s' st R=>?_⟩
 cases R with
 |dat r R=>cases R with |dat r2 R=>cases R;cases r;cases r2;exact⟨c,j,rfl,h1,kk H' aF M' s' st⟩
end
section
theorem Bt(hN:X.N[i]?=some x)(hv:mq X.env.scope x)(hd:(x==(~~~3))=false)(eF:(x==("__classdict__":Str))=false)(hg:g[i]?=some (.own l0))(h:cZ X z [e] g [.dat d] g1)(uM:g1[i]?=some (.own l))(hl:l.length<16777216)
  (hbase:attributeBase (.Name x pn) "append" X.env (eval (.Name x pn) X.env)=eval (.Name x pn) X.env)
  (hfew:((backTo bQ (starEach [e] X.env)).all (λx=>!x.1)&&(backToKw bQ (keywordEach [] X.env)).all (λx=>x.1.isSome)
   && decide ([e].length+([]:List Keyword).length+(if ([]:List Keyword).isEmpty then 0 else 1)<30))=true)
  (hline:(dY.endLine==bQ.line)=true) (hs:starEach [e] X.env=(false,eval e X.env)::starEach [] X.env):aA X z (.Call (.Attribute (.Name x pn) "append" dY) [e] [] bQ) g (.dat .non) (g1.set i (.own (l++[d]))):=by
 obtain⟨t,q,k⟩:=h;refine⟨_,zq AQ PySem.F.slot_list_append PySem.F.type_list_append kU (dF hN hv hd eF) q hbase hfew hline hs rfl,λY As M H Q s kk=>?_⟩
 obtain⟨a,xs,e1,e2,e3,e4⟩:=s.sl.at hg;refine⟨.ref a,e1,.inl ⟨rfl,xs,cB.of e3⟩,k Y As M H _ s λvs H' aF M' s' st R=>?_⟩
 obtain⟨b,ys,f1,f2,f3,f4⟩:=s'.sl.at uM;rw[e1]at f1;injection f1 with f1;injection f1 with f1;injection f1 with f1;subst f1;cases R with
 |dat r R=>
  cases R;refine⟨a,ys,_,rfl,rfl,f3,by rw[<- f4.length,nS];exact hl,?_⟩
  obtain⟨s2,aN⟩:=s'.write uM e1 (f4.append (.cons r .nil));exact kk _ _ aF M' s2 (st.trans aN) .non
end
section
theorem K4(hN:X.N[i]?=some x)(hv:mq X.env.scope x)(hd:(x==(~~~3))=false)(eF:(x==("__classdict__":Str))=false)(h:aA X z e g (.dat d) g1)(uM:g1[i]?=some (.own l0))(h2:aA X z ix g1 ‹k› g2)(Xi:g2[i]?=some (.own l))(hj:nk l.length k=some j)
  (ha:∀v,assign (.Subscript (.Name x pn) ix bY) X.env v=(do
   let ov <- holding [v] (eval (.Name x pn) X.env)
   let iv <- holding [v,ov] (eval ix X.env)
   standAt bY
   holding [v,ov,iv] (setItem ov iv v)
   release [v,ov,iv] []))
  (hs:swapsWithSole [.Subscript (.Name x pn) ix bY] e pos.line X.env=pure false) (hw:swappedStores [.Subscript (.Name x pn) ix bY] e X.env=pure none)
  (h1:(assignEach [.Subscript (.Name x pn) ix bY] X.env).map (·.2)=[assign (.Subscript (.Name x pn) ix bY) X.env]) :
  iu X z (.Assign [.Subscript (.Name x pn) ix bY] e pos) g .nx (g2.set i (.own (l.set j d))):=by
 obtain⟨t,q,kk⟩:=h;obtain⟨t2,q2,k2⟩:=h2;refine⟨_,xJ q (xH (dF hN hv hd eF) q2 set_list ha) hs hw h1,λY As M H E s kE=>kk Y As M H _ s λv H1 aY M1 s1 dH R1=>?_⟩
 obtain⟨a,xs,e1,e2,e3,e4⟩:=s1.sl.at uM;refine⟨.ref a,e1,k2 Y aY M1 H1 _ s1 λw H2 bI M2 s2 aN R2=>?_⟩
 obtain⟨b,ys,f1,f2,f3,f4⟩:=s2.sl.at Xi;rw[e1]at f1;injection f1 with f1;injection f1 with f1;injection f1 with f1;subst f1;have R2':Rep z.K M2 H2 (.int k) w:=R2;cases R2';refine⟨a,ys,k,j,rfl,rfl,f3,by rw[<- f4.length];exact hj,?_⟩
 obtain⟨s3,eK⟩:=s2.write Xi e1 (aI.set (Rep.stay aN R1) j f4);exact kE Y bI M2 _ s3 (dH.trans (aN.trans eK))
theorem aI.eraseIdx{K:Frag}{M:List Addr}{H:Hp}:∀{ds:List D}{vs:List V} (n:Nat),aI K M H ds vs->aI K M H (ds.eraseIdx n) (vs.eraseIdx n)
 |_,_,_,.nil=>.nil
 |_,_,0,.cons _ t=>t
 |_,_,n+1,.cons r t=>.cons r (aI.eraseIdx n t)
theorem FH(hN:X.N[i]?=some x)(hv:mq X.env.scope x)(hd:(x==(~~~3))=false)(eF:(x==("__classdict__":Str))=false)(hg:g[i]?=some (.own l0))(h:cZ X z [e] g [‹k›] g1)(uM:g1[i]?=some (.own l))(hk:nk l.length k=some j)(hy:l[j]?=some d)(hl:l.length<16777216)
  (hbase:attributeBase (.Name x pn) "pop" X.env (eval (.Name x pn) X.env)=eval (.Name x pn) X.env)
  (hfew:((backTo bQ (starEach [e] X.env)).all (λx=>!x.1)&&(backToKw bQ (keywordEach [] X.env)).all (λx=>x.1.isSome)
   && decide ([e].length+([]:List Keyword).length+(if ([]:List Keyword).isEmpty then 0 else 1)<30))=true)
  (hline:(dY.endLine==bQ.line)=true) (hs:starEach [e] X.env=(false,eval e X.env)::starEach [] X.env):aA X z (.Call (.Attribute (.Name x pn) "pop" dY) [e] [] bQ) g (.dat d) (g1.set i (.own (l.eraseIdx j))):=by
 obtain⟨t,q,k0⟩:=h;refine⟨_,zq AQ PySem.F.slot_list_pop PySem.F.type_list_pop Et (dF hN hv hd eF) q hbase hfew hline hs rfl,λY As M H Q s kk=>?_⟩
 obtain⟨a,xs,e1,e2,e3,e4⟩:=s.sl.at hg;refine⟨.ref a,e1,.inl ⟨rfl,xs,cB.of e3⟩,k0 Y As M H _ s λvs H' aF M' s' st R=>?_⟩
 obtain⟨b,ys,f1,f2,f3,f4⟩:=s'.sl.at uM;rw[e1]at f1;injection f1 with f1;injection f1 with f1;injection f1 with f1;subst f1;cases R with
 |dat r R=>
  cases R;cases r;obtain⟨h1,h2,h3,h4⟩:=sO hk;obtain⟨v,g1',RC⟩:=f4.get hy;obtain⟨s2,aN⟩:=s'.write uM e1 (aI.eraseIdx j f4);refine⟨a,ys,k,j,v,rfl,rfl,f3,by lia,by lia,by rw[<- f4.length];exact h1,g1',?_⟩
  exact kk _ _ aF M' s2 (st.trans aN) (RC.stay aN)
end
noncomputable def eu:List R->G->Option G
 | [],_=>some []
 |.dat d::rs,g=>match eu rs g with |some gs=>some (.dat d::gs) |none=>none
 |.var i::rs,g=>match g[i]? with
  |some (.own l)=>match eu rs g with |some gs=>some (.own l::gs) |none=>none
  |_=>none
 |.new _::_,_=>none
noncomputable def vars:Nat->List R->List (Nat×Nat)
 |_,[]=>[]
 |j,.var i::rs=>(j,i)::vars (j+1) rs
 |j,.dat _::rs=>vars (j+1) rs
 |j,.new _::rs=>vars (j+1) rs
noncomputable def back:List (Nat×Nat)->G->G->Option G
 | [],_,g=>some g
 | (j,i)::ps,gc,g=>match gc[j]? with
  |some (.own l)=>back ps gc (g.set i (.own l))
  |_=>none
noncomputable def gZ(bor:List Nat)(g':G):R->Option R
 |.dat d=>some (.dat d)
 |.new l=>some (.new l)
 |.var j=>if j∈bor then none else match g'[j]? with |some (.own l)=>some (.new l) |_=>none
noncomputable def adr(Y:Sg)(i:Nat):Addr:=match Y[i]? with |some (some (.ref a))=>a |_=>0
theorem jB(h:Y[i]?=some (some (.ref a))):adr Y i=a:=by unfold adr;rw[h]
def cV(Y:Sg)(ps:List (Nat×Nat)):List (Nat×Addr):=ps.map λp=>(p.1,adr Y p.2)
noncomputable def gn(n:Nat)(gs:G):G:=gs++List.replicate (n - gs.length) .no
theorem Slots.append{K:Frag}{M:List Addr}{H:Hp}{g1 g2:G}{σ1 σ2:Sg}{A1 A2:List Addr}(p:Slots K M H g1 σ1 A1)(q:Slots K M H g2 σ2 A2):Slots K M H (g1++g2) (σ1++σ2) (A1++A2):=by
 induction p with
 |nil=>exact q
 |no p ih=>exact .no ih
 |dat r p ih=>exact .dat r ih
 |own e r p ih=>exact .own e r ih
theorem Slots.Zy{K:Frag}{M:List Addr}{H:Hp}:∀(n:Nat),Slots K M H (List.replicate n .no) (List.replicate n none) []
 | 0=>.nil
 |n+1=>by rw[oI,oI];exact .no (Slots.Zy n)
section
theorem Slots.zC{K:Frag}{g:G}{Y:Sg}{As:List Addr}{i j:Nat}{a:Addr}{l l':List D}(q:Slots K M H g Y As)(nd:As.Nodup)(e1:g[i]?=some (.own l))(e2:g[j]?=some (.own l'))(e3:Y[i]?=some (some (.ref a)))(e4:Y[j]?=some (some (.ref a))):i=j:=by
 induction q generalizing i j with
 |nil=>exact nomatch (show none=some (Slot.own l)from e1)
 |no q ih=>cases i with
  |zero=>exact nomatch (show some Slot.no=some (Slot.own l)from e1)
  |succ i=>cases j with
   |zero=>exact nomatch (show some Slot.no=some (Slot.own l')from e2)
   |succ j=>exact congrArg (· + 1) (ih nd e1 e2 e3 e4)
 |dat r q ih=>cases i with
  |zero=>exact nomatch (show some (Slot.dat _)=some (Slot.own l)from e1)
  |succ i=>cases j with
   |zero=>exact nomatch (show some (Slot.dat _)=some (Slot.own l')from e2)
   |succ j=>exact congrArg (· + 1) (ih nd e1 e2 e3 e4)
 |@own g Y As b xs ds h r q ih=>
  have no:∀{i:Nat}{l:List D},g[i]?=some (.own l)->Y[i]?=some (some (.ref a))->b=a->False:=λ{i l} e1 e3 e=>by
   obtain⟨c,xs,h1,h2,_⟩:=q.at e1;cases (show some (some (V.ref c))=some (some (V.ref a))from h1.symm.trans e3)
   exact (hV.mp nd).1 (e▸h2)
  cases i with
  |zero=>cases j with
   |zero=>rfl
   |succ j=>cases (show some (some (V.ref b))=some (some (V.ref a))from e3);exact (no e2 e4 rfl).elim
  |succ i=>cases j with
   |zero=>cases (show some (some (V.ref b))=some (some (V.ref a))from e4);exact (no e1 e3 rfl).elim
   |succ j=>exact congrArg (· + 1) (ih (hV.mp nd).2 e1 e2 e3 e4)
theorem oY(s:S z g Y As M H)(j:Nat)(q:jA z Y M H rs vs)(e:eu rs g=some gs) :
  gs.length=vs.length/\Slots z.K M H gs (vs.map some) ((cV Y (vars j rs)).map (·.2))/\
  (∀p∈cV Y (vars j rs),∃n l,p.1=j+n/\gs[n]?=some (.own l)/\vs[n]?=some (.ref p.2))/\
  (∀n l a,gs[n]?=some (.own l)->vs[n]?=some (.ref a)->(j+n,a)∈cV Y (vars j rs))/\
  (∀p∈vars j rs,∃l a,g[p.2]?=some (.own l)/\Y[p.2]?=some (some (.ref a))/\a∈As):=by
 induction q generalizing gs j with
 |nil=>cases e;exact⟨rfl,.nil,(λp hp=>nomatch hp),(λn l a h=>by simp at h),(λp hp=>nomatch hp)⟩
 |@dat d v rs vs r q ih=>
  unfold eu at e;cases e2:eu rs g with
  |none=>rw[e2]at e;cases e
  |some gs=>
   rw[e2]at e;cases e;obtain⟨h1,h2,h3,h4,h5⟩:=ih (j+1) e2;refine⟨by simp[h1],.dat r h2,λp hp=>?_,λn l a e1 e3=>?_,h5⟩
   . obtain⟨n,l,q1,q2,q3⟩:=h3 p hp;exact⟨n+1,l,by lia,by simpa using q2,by simpa using q3⟩
   .
    cases n with
    |zero=>simp at e1
    |succ n=>
     have:=h4 n l a (by simpa using e1) (by simpa using e3)
     rw[show j+(n+1)=j+1+n by lia]
     exact this
 |@var i v rs vs r q ih=>
  unfold eu at e;split at e
  .
   rename_i l hg;cases e2:eu rs g with
   |none=>rw[e2]at e;cases e
   |some gs=>
    rw[e2]at e;cases e;obtain⟨h1,h2,h3,h4,h5⟩:=ih (j+1) e2;obtain⟨a,xs,f1,f2,f3,f4⟩:=s.sl.at hg;have ea:adr Y i=a:=jB f1;rw[r]at f1;injection f1 with f1;injection f1 with f1;subst f1;have el:cV Y (vars j (.var i::rs))=(j,a)::cV Y (vars (j+1) rs):=by show (j,adr Y i)::cV Y (vars (j+1) rs)=_;rw[ea]
    rw[el];refine⟨by simp[h1],.own f3 f4 h2,λp hp=>?_,λn l' b e1 e3=>?_,λp hp=>?_⟩
    .
     rcases d6.mp hp with rfl |hp
     . exact⟨0,l,rfl,rfl,rfl⟩
     . obtain⟨n,l,q1,q2,q3⟩:=h3 p hp;exact⟨n+1,l,by lia,by simpa using q2,by simpa using q3⟩
    .
     cases n with
     |zero=>
      have e4:a=b:=by simpa using e3
      subst e4;exact c8
     |succ n=>
      have:=h4 n l' b (by simpa using e1) (by simpa using e3)
      rw[show j+(n+1)=j+1+n by lia]
      exact bP _ this
    .
     rcases d6.mp (show p∈(j,i)::vars (j+1) rs from hp)with rfl |hp
     . exact⟨l,a,hg,r,f2⟩
     . exact h5 p hp
  . cases e
theorem rq{α β:Type}{f:α->β}:∀{l:List α},l.Nodup->(∀a∈l,∀b∈l,f a=f b->a=b)->(l.map f).Nodup
 | [],_,_=>yY
 |x::l,nd,h=>by
  rw[List.map_cons];refine hV.mpr ⟨λhm=>?_,rq (hV.mp nd).2 λa ha b hb=>h a (bP _ ha) b (bP _ hb)⟩
  obtain⟨y,hy,e⟩:=fR.mp hm;have:=h y (bP _ hy) x c8 e;exact (hV.mp nd).1 (this▸hy)
def vp(z:Z)(Y:Sg)(M:List Addr)(H:Hp)(rs:List R):Z:=⟨z.K,H,M,cV Y (vars 0 rs),z.T⟩
theorem rz:(vp z Y M H rs).bor=(vars 0 rs).map (·.1):=by show (cV Y (vars 0 rs)).map (·.1)=_;unfold cV;rw[List.map_map];rfl
theorem S.enter(s:S z g Y As M H){rs:List R}{vs:List V}{gs:G}{N:List Str}(r:jA z Y M H rs vs)(e:eu rs g=some gs)(nd:((vars 0 rs).map (·.2)).Nodup) :
  S (vp z Y M H rs) (gn N.length gs) (start N vs) ((cV Y (vars 0 rs)).map (·.2)) M H:=by
 obtain⟨h1,h2,h3,h4,h5⟩:=oY s 0 r e;have eB:(cV Y (vars 0 rs)).map (·.2)=((vars 0 rs).map (·.2)).map (adr Y):=by unfold cV;rw[List.map_map,List.map_map];rfl
 have mem:∀b∈(cV Y (vars 0 rs)).map (·.2),b∈As:=λb hb=>by
  rw[eB]at hb;obtain⟨i,hi,e⟩:=fR.mp hb;obtain⟨p,hp,e'⟩:=fR.mp hi;obtain⟨l,a,q1,q2,q3⟩:=h5 p hp;subst e';rw[jB q2]at e;subst e;exact q3
 have pre:∀{n:Nat}{o:Slot},gs[n]?=some o->(gn N.length gs)[n]?=some o:=λ{n o} q=>by
  unfold gn;rw[dS (dA.mp q).1];exact q
 have ownB:∀(n:Nat) (l:List D),(gn N.length gs)[n]?=some (.own l)->gs[n]?=some (.own l):=λn l q=>by
  unfold gn at q;rcases v6 n gs.length with h |h
  . rw[dS h]at q;exact q
  . rw[eQ h]at q;have:=l6 q;rw[xL]at this;exact absurd this.2 ⋯
 have st:∀{n:Nat}{v:V},vs[n]?=some v->(start N vs)[n]?=some (some v):=λ{n v} q=>by
  unfold L2.start;rw[dS (by rw[eA];exact (dA.mp q).1),tJ,q]
  rfl
 have st':∀{n:Nat}{v:V},(start N vs)[n]?=some (some v)->vs[n]?=some v:=λ{n v} q=>by
  unfold L2.start at q;rcases v6 n vs.length with h |h
  .
   rw[dS (by rw[eA];exact h),tJ]at q
   cases e:vs[n]? with
   |none=>rw[e]at q;cases q
   |some w=>rw[e]at q;injection q with q
  .
   rw[eQ (by rw[eA];exact h)]at q
   have:=l6 q;rw[xL]at this;exact absurd this.2 ⋯
 refine⟨?_,?_,λa ha=>s.sub a (mem a ha),λn a l q1 q2=>.inl ?_,s.live,λb o e _ _=>e,λm hm=>hm,λm hm=>?_,λb hb=>s.sub b (mem b hb),λp hp=>?_,s.tab,λp hp=>s.kY _ (s.tm p hp),s.tt⟩
 .
  have q:=h2.append (Slots.Zy (K:=z.K) (M:=M) (H:=H) (N.length - gs.length));rw[n0]at q;have e':start N vs=vs.map some++List.replicate (N.length - gs.length) none:=by unfold L2.start;rw[h1]
  rw[e'];exact q
 .
  rw[eB];refine rq nd λi hi j hj e=>?_
  obtain⟨p,hp,rfl⟩:=fR.mp hi;obtain⟨p',tF,rfl⟩:=fR.mp hj;obtain⟨l,a,q1,q2,q3⟩:=h5 p hp;obtain⟨l',a',Dw,FJ,RD⟩:=h5 p' tF;rw[jB q2,jB FJ]at e;subst e;exact s.sl.zC s.nd q1 Dw q2 FJ
 . have hm:=h4 n l a (ownB n l q1) (st' q2);rw[CB]at hm;exact⟨wS (f:=(·.1)) hm,wS (f:=(·.2)) hm⟩
 . exact λe=>s.fresh e hm
 . obtain⟨n,l,q1,q2,q3⟩:=h3 p hp;rw[CB]at q1;rw[q1];exact⟨st q3,l,pre q2⟩
theorem Slots.transfer{K:Frag}{M M2:List Addr}{H H':Hp}(st:az M H M2 H'){g g2:G}{Y:Sg}{As:List Addr}(q:Slots K M H g Y As)(hl:g2.length=g.length)
  (h1:∀(i:Nat) (l:List D) (a:Addr),g[i]?=some (.own l)->Y[i]?=some (some (.ref a))->∃l' xs',g2[i]?=some (.own l')/\H' a=some (.lst xs')/\aI K M2 H' l' xs')
  (h2:∀(i:Nat) (o:Slot),g[i]?=some o->(∀l,o≠.own l)->g2[i]?=some o):Slots K M2 H' g2 Y As:=by
 induction q generalizing g2 with
 |nil=>cases g2 with
  |nil=>exact .nil
  |cons a b=>cases hl
 |no q ih=>cases g2 with
  |nil=>cases hl
  |cons a b=>
   cases (show some a=some Slot.no from h2 0 .no rfl (λl z=>nomatch z))
   exact .no (ih (CA hl) (λi l a e1 e2=>h1 (i+1) l a e1 e2) λi o e1 e2=>h2 (i+1) o e1 e2)
 |@dat g Y As v d r q ih=>cases g2 with
  |nil=>cases hl
  |cons a b=>
   cases (show some a=some (Slot.dat d)from h2 0 (.dat d) rfl (λl z=>nomatch z))
   exact .dat (r.stay st) (ih (CA hl) (λi l a e1 e2=>h1 (i+1) l a e1 e2) λi o e1 e2=>h2 (i+1) o e1 e2)
 |@own g Y As a0 xs ds e0 r q ih=>cases g2 with
  |nil=>cases hl
  |cons a b=>
   obtain⟨l',xs',e1,e2,e3⟩:=h1 0 _ a0 rfl rfl;cases (show some a=some (Slot.own l')from e1)
   exact .own e2 e3 (ih (CA hl) (λi l a e1 e2=>h1 (i+1) l a e1 e2) λi o e1 e2=>h2 (i+1) o e1 e2)
theorem rA:∀{ps:List (Nat×Nat)}{g gO:G},back ps gc g=some gO->(ps.map (·.2)).Nodup->gO.length=g.length/\
  (∀i,i∉ps.map (·.2)->gO[i]?=g[i]?)/\∀p∈ps,p.2<g.length->∃l,gc[p.1]?=some (.own l)/\gO[p.2]?=some (.own l)
 | [],g,gO,e,_=>by cases e;exact⟨rfl,λ_ _=>rfl,λp hp=>nomatch hp⟩
 | (j,i)::ps,g,gO,e,nd=>by
  unfold back at e;split at e
  .
   rename_i l hg;obtain⟨h1,h2,h3⟩:=rA e (hV.mp nd).2;refine⟨by rw[h1,xI],λk hk=>?_,λp hp hlt=>?_⟩
   .
    have n1:k∉ps.map (·.2):=λz=>hk (bP _ z)
    have n2:i≠k:=λz=>hk (z▸c8)
    rw[h2 k n1,gL n2]
   .
    rcases d6.mp hp with rfl |hp
    . refine⟨l,hg,?_⟩;have hlt':i<g.length:=hlt;rw[h2 i (hV.mp nd).1,hZ hlt']
    . exact h3 p hp (by rw[xI];exact hlt)
  . cases e
theorem S.leave(s:S z g Y As M H){rs:List R}{vs:List V}{gs gc gO:G}{σc:Sg}{Ac Mc:List Addr}{Hc:Hp}{r r':R}{v:V}(rw':jA z Y M H rs vs)(e:eu rs g=some gs)(nd:((vars 0 rs).map (·.2)).Nodup)
  (sc:S (vp z Y M H rs) gc σc Ac Mc Hc) (st:az M H Mc Hc) (q:fX (vp z Y M H rs) gc σc Ac Mc Hc r v) (hb:back (vars 0 rs) gc g=some gO) (hr:gZ ((vars 0 rs).map (·.1)) gc r=some r') :
  ∃M2,S z gO Y As M2 Hc/\az M H M2 Hc/\fX z gO Y As M2 Hc r' v:=by
 obtain⟨h1,h2,h3,h4,h5⟩:=oY s 0 rw' e;obtain⟨b1,b2,b3⟩:=rA hb nd;have hM:∀m∈M,m∈Mc:=sc.kY;have core:∀M2:List Addr,(∀m∈M,m∈M2)->(∀m∈M2,m∈Mc)->az M H M2 Hc->S z gO Y As M2 Hc:=by
  intro M2 m1 m2 aN;refine⟨s.sl.transfer aN b1 (λi l a e1 e2=>?_) (λi o e1 e2=>?_),s.nd,λa ha=>m1 a (s.sub a ha),λi a l e1 e2=>?_,λm hm=>sc.live m (m2 m hm),λb o e1 e2 et=>?_,λm hm=>m1 m (s.kY m hm),s.m0,s.bm,λp hp=>⟨(s.jz p hp).1,?_⟩,sc.tab,s.tm,s.tt⟩
  .
   by_cases hi:i∈(vars 0 rs).map (·.2)
   .
    obtain⟨p,hp,rfl⟩:=fR.mp hi;obtain⟨l',q1,q2⟩:=b3 p hp (dA.mp e1).1;have hl:(p.1,adr Y p.2)∈cV Y (vars 0 rs):=wS (f:=λp:Nat×Nat=>(p.1,adr Y p.2)) hp
    obtain⟨c1,c2⟩:=sc.jz _ hl;obtain⟨a',xs,d1,d2,d3,d4⟩:=sc.sl.at q1;rw[c1]at d1;injection d1 with d1;injection d1 with d1;injection d1 with d1;rw[jB e2]at d1;subst d1;exact⟨l',xs,q2,d3,aI.stay (az.less m2) d4⟩
   .
    obtain⟨a',xs,d1,d2,d3,d4⟩:=s.sl.at e1;rw[e2]at d1;injection d1 with d1;injection d1 with d1;injection d1 with d1;subst d1;refine⟨l,xs,by rw[b2 i hi];exact e1,sc.keep a _ d3 (λhB=>?_) (s.W6 d3),d4.stay aN⟩
    obtain⟨p,hp,ep⟩:=fR.mp (show a∈(cV Y (vars 0 rs)).map (·.2)from hB);obtain⟨p',tF,rfl⟩:=fR.mp hp;obtain⟨l2,a2,q1,q2,q3⟩:=h5 p' tF;have JN:adr Y p'.2=a:=ep;rw[jB q2]at JN;subst JN;have:=s.sl.zC s.nd e1 q1 e2 q2;exact hi (this▸wS (f:=(·.2)) tF)
  .
   refine (b2 i λhi=>?_).trans e1
   obtain⟨p,hp,rfl⟩:=fR.mp hi;obtain⟨l2,a2,q1,q2,q3⟩:=h5 p hp;rw[e1]at q1;injection q1 with q1;exact e2 l2 q1
  .
   by_cases hi:i∈(vars 0 rs).map (·.2)
   . obtain⟨p,hp,rfl⟩:=fR.mp hi;obtain⟨l2,a2,q1,q2,q3⟩:=h5 p hp;exact s.own p.2 a l2 q1 e2
   . rw[b2 i hi]at e1;exact s.own i a l e1 e2
  .
   have e3:=s.keep b o e1 e2 et;refine sc.keep b o e3 (λhB=>?_) et
   obtain⟨p,hp,ep⟩:=fR.mp (show b∈(cV Y (vars 0 rs)).map (·.2)from hB);obtain⟨p',tF,rfl⟩:=fR.mp hp;obtain⟨l2,a2,q1,q2,q3⟩:=h5 p' tF;have JN:adr Y p'.2=b:=ep;rw[jB q2]at JN;subst JN;rcases s.own p'.2 a2 l2 q1 q2 with w |w
   . exact e2 w.2
   . rw[w]at e1;cases e1
  .
   by_cases hi:p.1∈(vars 0 rs).map (·.2)
   . obtain⟨p',tF,e'⟩:=fR.mp hi;have e'':p'.2=p.1:=e';obtain⟨l2,a2,q1,q2,q3⟩:=h5 p' tF;obtain⟨l',Dw,FJ⟩:=b3 p' tF (dA.mp q1).1;exact⟨l',by rw[<- e''];exact FJ⟩
   . rw[b2 p.1 hi];exact (s.jz p hp).2
 have new:∀(a:Addr) (xs:List V) (l:List D),v=.ref a->a∈Mc->H a=none->Hc a=some (.lst xs)->aI z.K Mc Hc l xs->∃M2,S z gO Y As M2 Hc/\az M H M2 Hc/\fX z gO Y As M2 Hc (.new l) v:=by
  intro a xs l ev hm h0 hx rr;have m2:∀m∈a::M,m∈Mc:=λm hm'=>(d6.mp hm').elim (λe=>e▸hm) (hM m)
  have aN:az M H (a::M) Hc:=st.trans (az.less m2);refine⟨a::M,core _ (λm hm'=>bP _ hm') m2 aN,aN,a,xs,ev,c8,λhA=>?_,s.cH h0,hx,rr.stay (az.less m2)⟩
  exact s.fresh h0 (s.sub a hA)
 cases r with
 |dat d=>cases hr;have aN:az M H M Hc:=st.trans (az.less hM);exact⟨M,core M (λm h=>h) hM aN,aN,Rep.stay (az.less hM) q⟩
 |new l=>cases hr;obtain⟨a,xs,rfl,c1,c2,c3,c4,c5⟩:=q;exact new a xs l rfl c1 c3 c4 c5
 |var j=>
  obtain⟨l,q1,q2⟩:=q;have hr:(if j∈(vars 0 rs).map (·.1)then none else match gc[j]? with |some (.own l)=>some (R.new l) |_=>none)=some r':=hr
  split at hr
  . cases hr
  .
   rename_i hj;rw[q1]at hr;cases hr;obtain⟨a,xs,d1,d2,d3,d4⟩:=sc.sl.at q1;rw[q2]at d1;injection d1 with d1;injection d1 with d1;subst d1;refine new a xs l rfl (sc.sub a d2) ?_ d3 d4;rcases sc.own j a l q1 q2 with w |w
   . have w':=w.1;rw[rz]at w';exact absurd w' hj
   . exact w
end
theorem jA.length(q:jA z Y M H rs vs):vs.length=rs.length:=by
 induction q with
 |nil=>rfl
 |dat r q ih=>exact congrArg (· + 1) ih
 |var r q ih=>exact congrArg (· + 1) ih
def RJ(K:Frag)(N:List Str)(np:Nat)(run:List Nat->G->R->G->Prop):Sp:=λvs H Q _=>
 vs.length=np/\∃(z:Z) (g g':G) (As M:List Addr) (r:R),z.K=K/\S z g (start N vs) As M H/\run z.bor g r g'/\
  ∀v σ' aF M' H',S z g' σ' aF M' H'->az M H M' H'->fX z g' σ' aF M' H' r v->Q v H'
section
variable{run:List Nat->G->R->G->Prop}
theorem zD(F:qq X.prog X.w X.K X.mg X.base Jr k f fd ps (RJ X.K N ps.length run))(hK:z.K=X.K)(hr:gj k X.A)(hg:Gl X x)(hm:X.mg x=some (.ref f))(hk:PySem.W.keepIn X.K (.ref f)=true)(hb:Binds X.K fd ps [])
  (ha:cZ X z (e::es) g rs g1) (aL:rs.length=ps.length) (hl:eu rs g1=some gs) (nd:((vars 0 rs).map (·.2)).Nodup) (hrun:run ((vars 0 rs).map (·.1)) (gn N.length gs) r gc) (Xj:back (vars 0 rs) gc g1=some gO) (ho:gZ ((vars 0 rs).map (·.1)) gc r=some r')
  (Am:(x==(~~~3))=false) (he:starEach (e::es) X.env=(false,eval e X.env)::starEach es X.env) (mh:(backTo pos (starEach es X.env)).any (·.1)=false) :
  aA X z (.Call (.Name x p) (e::es) [] pos) g r' gO:=by
 obtain⟨t,q,kk⟩:=ha;refine⟨_,J8 F hr hg hm hk hb .nil WR q Am he mh,λY As M H Q s kq=>kk Y As M H _ s λvs H1 aY M1 s1 dH R1=>?_⟩
 have hv:vs.length=rs.length:=R1.length;have ee:=s1.enter (N:=N) R1 hl nd;refine⟨by rw[n0,hv];exact aL,vp z Y M1 H1 rs,gn N.length gs,gc,_,M1,r,hK,by rw[n0];exact ee,by rw[rz];exact hrun,λv σ' aF M' H' s' st' R'=>?_⟩
 obtain⟨M2,s2,aN,R2⟩:=s1.leave R1 hl nd s' st' R' Xj ho;exact kq v H' aY M2 s2 (dH.trans aN) R2
theorem Om{P:Program}{w:World}{K:Frag}{mg:Str->Option Value}{base:Heap}{qual:Str}{st:Stmt}(F:WT K x qual st f fd)(Sc:fW N ps (aZ st))
  (h:∀(gg:Value) (A:Around) (outer:List Env) (s:Shared) (H:Hp) (E:XK),PySem.W.codeIn K gg qual=true->gj k (A.deeper (envOfC qual (aZ st) s⁻¹ f gg))->
   ∀(z:Z) (g:G) (r:R) (g':G),z.K=K->run z.bor g r g'->∃fl,fD (u5 Jr P w K mg base N qual (aZ st) f gg A outer s H E).Vb z (cA st) g fl g'/\(fl=.rt r\/(fl=.nx/\r=.dat .non))) :
  qq P w K mg base Jr (k+1) f fd ps (RJ K N ps.length run):=by
 obtain⟨oc,od,kV,doc,pm,an,gg,ct,osl,rfl,lk,eF⟩:=F.ex;refine Wy lk eF Sc (λvs H Q E q=>q.1) λA outer s H vs Q E hr ⟨_,z,g,g',As,M,r,hK,hs,hrun,hQ⟩=>?_
 obtain⟨fl,⟨t,q,kk⟩,hfl⟩:=h gg A outer s H E eF hr z g r g' hK hrun;refine⟨t,q.Vb,kk _ As M H _ hs ?_⟩;rcases hfl with rfl |⟨rfl,rfl⟩
 . exact λv σ' aF M' H' s' st' R'=>hQ v σ' aF M' H' s' st' R'
 . exact λσ' aF M' H' s' st'=>hQ .non σ' aF M' H' s' st' .non
end
inductive Tg where
 |nm (i:Nat) |tp (is:List Nat)
noncomputable def lu:List Nat->List D->G->G
 |i::is,d::ds,g=>lu is ds (g.set i (.dat d))
 | [],_,g=>g
 |_::_,[],g=>g
noncomputable def Tg.ix:Tg->List Nat
 |.nm i=>[i]
 |.tp is=>is
def Tg.set:Tg->D->G->Option G
 |.nm i,d,g=>some (g.set i (.dat d))
 |.tp is,.tup ds,g=>if ds.length=is.length then some (lu is ds g)else none
 |.tp is,.lst ds,g=>if ds.length=is.length then some (lu is ds g)else none
 |.tp _,_,_=>none
def uN(is:List Nat)(Y σ':Sg):Prop:=σ'.length=Y.length/\∀j,j∉is->σ'[j]?=Y[j]?
theorem uN.refl(is:List Nat)(Y:Sg):uN is Y Y:=⟨rfl,λ_ _=>rfl⟩
theorem uN.trans{is:List Nat}{Y σ1 σ2:Sg}(a:uN is Y σ1)(b:uN is σ1 σ2):uN is Y σ2:=⟨b.1.trans a.1,λj h=>(b.2 j h).trans (a.2 j h)⟩
theorem uN.mono(h:∀i∈is,i∈js)(a:uN is Y σ'):uN js Y σ':=⟨a.1,λj hj=>a.2 j λz=>hj (h j z)⟩
def gQ(X:Cx)(z:Z)(tg:Expr)(T:Tg):Prop:=∃t,PG X tg t/\∀d g g',T.set d g=some g'->∀v Y As M H (Q:Sg->Hp->Prop),S z g Y As M H->Rep z.K M H d v->(∀σ' aF,S z g' σ' aF M H->uN T.ix Y σ'->Q σ' H)->t v Y H Q
structure oZ(X:Cx)(x:Str)(i:Nat):Prop where
 nd:X.N.Nodup
 ix:X.N[i]?=some x
 lc:Loc X.env.scope x
 fn:X.fn x=true\/X.env.scope.names.lookup x=some .local
section
theorem Xk(h:oZ X x i)(hb:i∉z.bor):gQ X z (.Name x pos) (.nm i):=
 ⟨_,jU h.nd h.ix h.lc h.fn,λd g g' e v Y As M H Q s r k=>by
  cases e;obtain⟨aF,s'⟩:=s.kZ (i:=i) hb r;exact k _ aF s' ⟨by rw[xI],λj hj=>by rw[gL (λe=>hj (by rw[<- e];exact eP.mpr rfl))]⟩⟩
inductive j6(X:Cx):List Expr->List Nat->Prop
 |nil:j6 X [] []
 |cons {x:Str}{p:Pos}{i:Nat}{es:List Expr}{is:List Nat}:oZ X x i->j6 X es is->j6 X (.Name x p::es) (i::is)
theorem j6.plain(h:j6 X es is):(assignEach es X.env).length=is.length/\(assignEach es X.env).findIdx? (·.1)=none:=by
 induction h with
 |nil=>exact⟨rfl,rfl⟩
 |cons _ _ ih=>
  refine⟨?_,?_⟩
  . show (assignEach _ X.env).length+1=_;rw[ih.1];rfl
  . show List.findIdx? _ ((false,assign _ X.env)::assignEach _ X.env)=none;rw[List.findIdx?_cons,ih.2];rfl
theorem j6.pgs(h:j6 X es is)(hb:∀i∈is,i∉z.bor):∃t,Vc X es t/\∀ds vs g Y As M H (Q:Sg->Hp->Prop),ds.length=is.length->S z g Y As M H->aI z.K M H ds vs->(∀σ' aF,S z (lu is ds g) σ' aF M H->uN is Y σ'->Q σ' H)->t vs Y H Q:=by
 induction h with
 |nil=>
  refine⟨_,sI,λds vs g Y As M H Q hl s r k=>?_⟩
  cases r with
  |nil=>exact⟨rfl,k Y As s (uN.refl _ _)⟩
  |cons _ _=>simp at hl
 |@cons x p i es is hn hs ih=>
  obtain⟨t,q,kk⟩:=ih λj hj=>hb j (bP _ hj)
  refine⟨_,iB (jU hn.nd hn.ix hn.lc hn.fn) q rfl,λds vs g Y As M H Q hl s r k=>?_⟩
  cases r with
  |nil=>simp at hl
  |@cons d ds v vs r rs=>
   obtain⟨aY,s1⟩:=s.kZ (i:=i) (hb i c8) r;refine⟨v,vs,rfl,kk ds vs _ _ aY M H Q (by simpa using hl) s1 rs λσ' aF s' a=>k σ' aF s' ?_⟩
   refine uN.trans ⟨by rw[xI],λj hj=>?_⟩ (a.mono λj hj=>bP _ hj)
   rw[gL (λe=>hj (by rw[<- e];exact c8))]
theorem xV{prog:Program}{w:World}{A:Around}{E:Value->Shared->Prop}{it l:Addr}{xs:Array Value}(ne:l≠it)(n:Nat):∀(i:Nat) (s:Shared) (Q:List Value->Shared->Prop),s.heap.IsListIter it l i->s.heap.IsList l xs->i+n=xs.size->
  (∀h',h'.IsListIter it l xs.size->Heap.SameBut it s.heap h'->Q (xs.toList.drop i) { s with heap:=h'})->wpAny (model prog w) A (draw (.ref it) n) Q E s:=by
 induction n with
 |zero=>
  intro i s Q hit _ hi k;have e:xs.toList.drop i=[]:=List.drop_eq_nil_of_le (by rw[oD];lia)
  have q:=k s.heap (by rw[<- hi];exact hit) (Heap.SameBut.refl ..)
  rw[e]at q;exact d5 q
 |succ n ih=>
  intro i s Q hit hl hi k;have hlt:i<xs.size:=by lia
  refine aS (wpAny_pyNext_list_item hit hl (x:=xs[i]) (by simp[hlt]) λh1 b1 c1=>?_)
  refine aS (lL (ih (i+1) _ _ b1 (hl.extBut c1.extBut ne) ⋯ λh2 b2 c2=>d5 ?_))
  have q:=k h2 b2 (c1.trans c2);rw[List.drop_eq_getElem_cons (by rw[oD];exact hlt)]at q
  exact q
theorem vq{prog:Program}{w:World}{A:Around}{E:Value->Shared->Prop}{s:Shared}{l:Addr}{xs:Array Value}{Q:List Value->Shared->Prop}(hh:A.handled=none)(hl:s.heap.IsList l xs)
  (k:∀h',Heap.ExtBut s⁻¹ s.heap h'->Q xs.toList { s with heap:=h'}):wpAny (model prog w) A (unpackItems (.ref l) xs.size none) Q E s:=by
 have ne:l≠s⁻¹:=by obtain⟨o,ho,_⟩:=hl;exact l4 (eR ho)
 unfold unpackItems;refine aS ?_;unfold notIterableAtAll;refine aS (wpAny_specialOf hl.typeIs slot_list_iter.lookup ?_);refine d5 ?_;simp only[AV,C9];refine aS (lL (AK hl ?_));refine aS (lL (xV ne xs.size 0 _ _ ⟨_,eJ _ rfl,rfl,rfl⟩ (hl.push _) (CB _) λh1 b1 c1=>?_))
 rw[List.drop_zero,hU ⋯];refine aS (lL (wpAny_pyNext_list_end hh b1 ((hl.push _).extBut c1.extBut ne) ⋯ λh2 e2=>?_))
 simp only[Option.isSome_none,AV,C9];exact d5 (k h2 λb o nb e=>e2 b o nb (c1.extBut b o nb (b0 _ e)))
def gSeq(K:Frag)(n:Nat)(t:Ob):TG:=λv Y H Q=>∃a xs,v=.ref a/\(fV K H a xs\/cB K H a xs)/\xs.length=n/\t xs Y H Q
theorem RK{es:List Expr}{k:Nat}{t:Ob}{n:Nat}(hc:X.calm=true)(h:Vc X es t)(hn:(assignEach es X.env).length=n)(eG:(assignEach es X.env).findIdx? (·.1)=none):PG X (.Tuple es k pos) (gSeq X.K n t):=by
 intro L s Y H v u Q I r hw;obtain⟨a,xs,e1,hq,hl,hw⟩:=hw;rcases hq with hq |hq
 . exact xG hc h hn eG L s Y H v u Q I r ⟨a,xs,e1,hq,hl,hw⟩
 .
  subst e1;cases r;obtain⟨its,rv,pl,hz⟩:=I.list hq;rw[assign_Tuple];refine aS (AE ?_);unfold unpack;rw[eG,show (assignEach es X.env).length=its.toArray.size by rw[hn,<- hl,rv.length,dC]]
  refine aS (lL (vq (I.ok.hd hc) pl.isList λh' hx=>?_))
  have I1:L2.Inv X L Y H { s with heap:=h'}:=I.kept (t':=s.toks) λb o e=>hx b o (l4 (eR e)) e
  exact h L _ Y H xs _ Q I1 (by simpa using rv) hw
theorem Xl(hc:X.calm=true)(hK:z.K=X.K)(h:j6 X es is)(hb:∀i∈is,i∉z.bor):gQ X z (.Tuple es k pos) (.tp is):=by
 obtain⟨t,q,kk⟩:=h.pgs (z:=z) hb;refine⟨_,RK (n:=is.length) hc q h.plain.1 h.plain.2,λd g g' e v Y As M H Q s r k=>?_⟩
 cases d with
 |tup ds=>
  have e:(if ds.length=is.length then some (lu is ds g)else none)=some g':=e
  by_cases hl:ds.length=is.length
  .
   rw[fN hl]at e;cases e;cases r with
   |@tup _ a xs ha rr=>exact⟨a,xs,rfl,.inl (hK▸ha.sq),by rw[<- rr.length];exact hl,kk ds xs g Y As M H Q hl s rr k⟩
  . rw[hU hl]at e;cases e
 |lst ds=>
  have e:(if ds.length=is.length then some (lu is ds g)else none)=some g':=e
  by_cases hl:ds.length=is.length
  .
   rw[fN hl]at e;cases e;cases r with
   |@lst _ a xs ha rr=>exact⟨a,xs,rfl,.inr (cB.of ha.2),by rw[<- rr.length];exact hl,kk ds xs g Y As M H Q hl s rr k⟩
  . rw[hU hl]at e;cases e
 |_=>cases e
def Jt(J:It)(aj:List D)(K:Frag)(M1:List Addr)(H1:Hp):Prop:=
 ∀M2 H2,az M1 H1 M2 H2->(∀n d,aj[n]?=some d->J.go n H2/\∀x H',J.Wd n H2 x H'->∀(z:Z) g Y As,z.K=K->S z g Y As M2 H2->S z g Y As M2 H'/\az M2 H2 M2 H'/\Rep K M2 H' d x)/\J.stop aj.length H2
def dJ(X:Cx)(z:Z)(tg iter:Expr)(g:G)(aj:List D)(g1:G):Prop:=
 ∃wi,PI X tg iter wi/\∀Y As M H (R:It->Hp->Prop),S z g Y As M H->(∀J H' aF M',S z g1 Y aF M' H'->az M H M' H'->Jt J aj z.K M' H'->R J H')->wi Y H R
theorem RL(hK:z.K=X.K)(h:aA X z iter g (.dat (.tup l)) g1):dJ X z tg iter g l g1:=by
 obtain⟨t,q,k⟩:=h;refine⟨_,Eh q,λY As M H R s kk=>k Y As M H _ s λv H1 aY M1 s1 dH r=>?_⟩
 have r':Rep z.K M1 H1 (.tup l) v:=r;cases r' with
 |@tup _ a xs ha rr=>
  refine⟨a,rfl,⟨xs,hK▸ha.sq⟩,kk _ H1 aY M1 s1 dH λM2 H2 aN=>?_⟩
  have r2:=Rep.stay aN (Rep.tup ha rr);have ha2:TupAt z.K M2 H2 a xs:=by
   rcases ha with ⟨na,hr⟩ |hk
   . exact .inl (aN.rd na hr)
   . exact .inr hk
  have Dz:=rr.stay aN;refine⟨λn d hd=>?_,xs,hK▸ha2.sq,by rw[rr.length];exact eD _⟩
  obtain⟨x,e1,e2⟩:=Dz.get hd;refine⟨⟨xs,x,hK▸ha2.sq,e1⟩,λy H' hy z' g' σ' aF _ s'=>?_⟩
  obtain⟨rfl,hy⟩:=hy;have:=hy xs (hK▸ha2.sq);rw[e1]at this;cases this;exact⟨s',az.refl _ _,e2⟩
theorem RM(h:aA X z iter g (.dat (.lst l)) g1):dJ X z tg iter g l g1:=by
 obtain⟨t,q,k⟩:=h;refine⟨_,zl q,λY As M H R s kk=>k Y As M H _ s λv H1 aY M1 s1 dH r=>?_⟩
 have r':Rep z.K M1 H1 (.lst l) v:=r;cases r' with
 |@lst _ a xs ha rr=>
  refine⟨a,rfl,⟨xs,cB.of ha.2⟩,kk _ H1 aY M1 s1 dH λM2 H2 aN=>?_⟩
  have ha2:=(aN _ _ ha.2 ha.1).1;have Dz:=rr.stay aN;refine⟨λn d hd=>?_,xs,cB.of ha2,by rw[rr.length];exact eD _⟩
  obtain⟨x,e1,e2⟩:=Dz.get hd;refine⟨⟨xs,x,cB.of ha2,e1⟩,λy H' hy z' g' σ' aF _ s'=>?_⟩
  obtain⟨rfl,hy⟩:=hy;have:=hy xs (cB.of ha2);rw[e1]at this;cases this;exact⟨s',az.refl _ _,e2⟩
theorem RN(hK:z.K=X.K)(h:aA X z iter g (.dat (.fix l)) g1):dJ X z tg iter g l g1:=by
 obtain⟨t,q,k⟩:=h;refine⟨_,zl q,λY As M H R s kk=>k Y As M H _ s λv H1 aY M1 s1 dH r=>?_⟩
 have r':Rep z.K M1 H1 (.fix l) v:=r;cases r' with
 |@fix _ a xs ha rr=>
  refine⟨a,rfl,⟨xs,hK▸ha.sq⟩,kk _ H1 aY M1 s1 dH λM2 H2 aN=>?_⟩
  have ha2:mD z.K M2 H2 a xs:=by
   rcases ha with ⟨na,o,hr⟩ |hk
   . exact .inl ⟨(aN _ _ hr na).2,o,(aN _ _ hr na).1⟩
   . exact .inr hk
  have Dz:=rr.stay aN;refine⟨λn d hd=>?_,xs,hK▸ha2.sq,by rw[rr.length];exact eD _⟩
  obtain⟨x,e1,e2⟩:=Dz.get hd;refine⟨⟨xs,x,hK▸ha2.sq,e1⟩,λy H' hy z' g' σ' aF _ s'=>?_⟩
  obtain⟨rfl,hy⟩:=hy;have:=hy xs (hK▸ha2.sq);rw[e1]at this;cases this;exact⟨s',az.refl _ _,e2⟩
theorem FN{lo:Int}{n:Nat}{K:Frag}{M:List Addr}{H:Hp}:Jt (Qg lo n) (bK lo n) K M H:=λM2 H2 _=>by
 refine⟨λk d hd=>?_,?_⟩
 .
  have hk:k<n:=by have:=(dA.mp hd).1;rw[vo]at this;exact this
  rw[FG hk]at hd;cases hd;refine⟨hk,λx H' hx z' g' σ' aF _ s'=>?_⟩
  obtain⟨rfl,rfl⟩:=hx;exact⟨s',az.refl _ _,.int _⟩
 . show n<=(bK lo n).length;rw[vo];exact eD _
theorem K5(h:cZ X z [a] g [‹j›] g1)(hg:Gl X "range")(hm:X.mg "range"=none)(hs:starEach [a] X.env=[(false,eval a X.env)])(h1 : -(2 ^ 62)<=j)(h2:j<2 ^ 62) :
  dJ X z tg (.Call (.Name "range" p) [a] [] rp) g (bK 0 j.toNat) g1:=by
 obtain⟨wi,q,k⟩:=Br (p:=p) (rp:=rp) h hg hm hs h1 h2 (tg:=tg);exact⟨wi,q,λY As M H R s kk=>k Y As M H _ s λH' aF M' s' st=>kk _ H' aF M' s' st FN⟩
theorem K6(h:cZ X z [a,b] g [‹c›,‹j›] g1)(hg:Gl X "range")(hm:X.mg "range"=none)(hs:starEach [a,b] X.env=[(false,eval a X.env),(false,eval b X.env)])(hs2:starEach [b] X.env=[(false,eval b X.env)])
  (h1 : -(2 ^ 62)<=c/\c<2 ^ 62/\-(2 ^ 62)<=j/\j<2 ^ 62):dJ X z tg (.Call (.Name "range" p) [a,b] [] rp) g (bK c (j - c).toNat) g1:=by
 obtain⟨wi,q,k⟩:=Bs (p:=p) (rp:=rp) h hg hm hs hs2 h1 (tg:=tg);exact⟨wi,q,λY As M H R s kk=>k Y As M H _ s λH' aF M' s' st=>kk _ H' aF M' s' st FN⟩
inductive fE(X:Cx)(z:Z)(body:List Stmt)(T:Tg):List D->G->Fl->G->Prop
 |nil {g:G}:fE X z body T [] g .nx g
 |next {d:D}{l:List D}{g g0 g1 g2:G}{f:Fl}:T.set d g=some g0->fD X z body g0 .nx g1->fE X z body T l g1 f g2->fE X z body T (d::l) g f g2
 |cont {d:D}{l:List D}{g g0 g1 g2:G}{f:Fl}:T.set d g=some g0->fD X z body g0 .ct g1->fE X z body T l g1 f g2->fE X z body T (d::l) g f g2
 |brk {d:D}{l:List D}{g g0 g1:G}:T.set d g=some g0->fD X z body g0 .bk g1->fE X z body T (d::l) g .nx g1
 |ret {d:D}{l:List D}{g g0 g1:G}{r:R}:T.set d g=some g0->fD X z body g0 (.rt r) g1->fE X z body T (d::l) g (.rt r) g1
theorem RP(hp:PassesOwn (~~~2) X.A X.env X.xe)(hc:X.calm=true)(hw:dJ X z tg iter g aj g1)(ht:gQ X z tg T)(hb:fE X z body T aj g1 f g')(hs:∀y,foldedSetIterable iter X.env y=pure y) :
  iu X z (.For tg iter body [] pos) g f g':=by
 obtain⟨wi,q,k⟩:=hw;obtain⟨t,qt,kt⟩:=ht;refine⟨_,Ei hp hc q qt zB hs,λY As M H E s kk=>k Y As M H _ s λJ H1 aY M1 s1 dH hJ=>?_⟩
 refine⟨λi m σ2 H2=>i+m=aj.length/\∃g2 bI M2,S z g2 σ2 bI M2 H2/\az M1 H1 M2 H2/\fE X z body T (aj.drop i) g2 f g',⟨aj.length,by lia,g1,aY,M1,s1,az.refl _ _,by simpa using hb⟩,?_⟩
 rintro i m σ2 H2 ⟨Xm,g2,bI,M2,s2,aN,lo⟩;obtain⟨hgo,hstop⟩:=hJ M2 H2 aN;cases e:aj[i]? with
 |none=>
  have hi:i=aj.length:=by have:=oT.mp e;lia
  subst hi;rw[AS]at lo;refine .inl ⟨hstop,?_⟩;cases lo;exact kk σ2 bI M2 H2 s2 (dH.trans aN)
 |some d=>
  obtain⟨go,yl⟩:=hgo i d e;rw[drop_cons e]at lo;have hi:i<aj.length:=(dA.mp e).1;refine .inr ⟨go,λσ' H'=>∃g3 kO M3,S z g3 σ' kO M3 H'/\az M1 H1 M3 H'/\fE X z body T (aj.drop (i+1)) g3 f g',λσ' H' ⟨g3,kO,M3,w1,w2,w3⟩=>⟨m - 1,by lia,by lia,g3,kO,M3,w1,w2,w3⟩,λx H' hx=>?_⟩
  obtain⟨s3,eK,rx⟩:=yl x H' hx z g2 σ2 bI rfl s2;have kk':=(kk.trans dH).trans (aN.trans eK);have Xn:=aN.trans eK;cases lo with
  |next e0 b h=>
   refine kt d g2 _ e0 x σ2 bI M2 H' _ s3 rx λσ' aF s' _=>?_
   obtain⟨t,q,kb⟩:=b;exact⟨t,q,kb _ aF M2 H' _ s' λσ4 jC M4 H4 s4 qG=>⟨_,jC,M4,s4,Xn.trans qG,h⟩⟩
  |cont e0 b h=>
   refine kt d g2 _ e0 x σ2 bI M2 H' _ s3 rx λσ' aF s' _=>?_
   obtain⟨t,q,kb⟩:=b;exact⟨t,q,kb _ aF M2 H' _ s' λσ4 jC M4 H4 s4 qG=>⟨_,jC,M4,s4,Xn.trans qG,h⟩⟩
  |brk e0 b=>
   refine kt d g2 _ e0 x σ2 bI M2 H' _ s3 rx λσ' aF s' _=>?_
   obtain⟨t,q,kb⟩:=b;exact⟨t,q,kb _ aF M2 H' _ s' λσ4 jC M4 H4 s4 qG=>kk' σ4 jC M4 H4 s4 qG⟩
  |ret e0 b=>
   refine kt d g2 _ e0 x σ2 bI M2 H' _ s3 rx λσ' aF s' _=>?_
   obtain⟨t,q,kb⟩:=b;exact⟨t,q,kb _ aF M2 H' _ s' λv σ4 jC M4 H4 s4 qG R=>kk' v σ4 jC M4 H4 s4 qG R⟩
end
noncomputable def gC(k:Nat)(g:G):G:=g++(List.replicate k .no++[.own []])
def dG(X:Cx)(z:Z)(ifs:List Expr)(g:G)(b:Bool)(g':G):Prop:=
 ∃t,jY X ifs t/\∀Y As M H (Q:Bool->Hp->Prop),S z g Y As M H->(∀H' aF M',S z g' Y aF M' H'->az M H M' H'->Q b H')->t Y H Q
theorem K7:dG X z [] g true g:=⟨_,oE,λY As M H Q s k=>k H As M s (az.refl _ _)⟩
theorem K8(h:dI X z c g b g'):dG X z [c] g b g':=let ⟨t,q,k⟩:=h;⟨t,Ew q,k⟩
inductive jj(T:Tg)(last:Nat)(tG:G->Bool->G->Prop)(Js:G->D->G->Prop):List D->G->G->Prop
 |nil {g:G}:jj T last tG Js [] g g
 |skip:T.set d g=some g1->tG g1 false g2->jj T last tG Js l g2 g'->jj T last tG Js (d::l) g g'
 |take:T.set d g=some g1->tG g1 true g2->Js g2 e g3->g3[last]?=some (.own acc)->acc.length<16777216->jj T last tG Js l (g3.set last (.own (acc++[e]))) g'->jj T last tG Js (d::l) g g'
section
theorem S.extend(s:S z g Y As M H)(hm:a∈M)(hA:a∉As)(h0:z.H0 a=none)(h:H a=some (.lst xs))(r:aI z.K M H l xs) :
  S z (g++(List.replicate k .no++[.own l])) (Y++(List.replicate k none++[some (.ref a)])) (As++([]++[a])) M H:=by
 have hl:=s.sl.length;refine⟨s.sl.append ((Slots.Zy k).append (.own h r .nil)),?_,λb hb=>?_,λi b l' e1 e2=>?_,s.live,s.keep,s.kY,s.m0,s.bm,λp hp=>?_,s.tab,s.tm,s.tt⟩
 .
  rw[AZ];refine y8.mpr ⟨s.nd,hV.mpr ⟨by simp,yY⟩,λx hx y hy e=>?_⟩
  rw[eP.mp hy]at e;exact hA (e▸hx)
 .
  rcases AI.mp hb with q |q
  . exact s.sub b q
  . rw[AZ]at q;rw[eP.mp q];exact hm
 .
  rcases v6 i g.length with hi |hi
  . rw[dS hi]at e1;rw[dS ⋯]at e2;exact s.own i b l' e1 e2
  .
   rw[eQ hi]at e1;rw[eQ ⋯]at e2;rcases v6 (i - g.length) k with hk |hk
   .
    rw[dS (by rw[i6];exact hk)]at e1
    have:=l6 e1;rw[xL]at this;exact absurd this.2 ⋯
   .
    rw[eQ (by rw[i6];lia),i6]at e2
    have e3:i - Y.length - k=0:=by
     rcases Nat.eq_zero_or_pos (i - Y.length - k)with q |q
     . exact q
     . rw[A5 (Nat.succ_le_of_lt q)]at e2;cases e2
    rw[e3]at e2;have e4:some (some (V.ref a))=some (some (V.ref b)):=e2;injection e4 with e4;injection e4 with e4;injection e4 with e4;exact .inr (e4▸h0)
 . obtain⟨q1,l',q2⟩:=s.jz p hp;exact⟨by rw[dS (dA.mp q1).1];exact q1,l',by rw[dS (dA.mp q2).1];exact q2⟩
theorem Slots.split{K:Frag}{g1 g2:G}{Y:Sg}{As:List Addr}(q:Slots K M H (g1++g2) Y As):∃σ1 σ2 A1 A2,Y=σ1++σ2/\As=A1++A2/\Slots K M H g1 σ1 A1/\Slots K M H g2 σ2 A2:=by
 induction g1 generalizing Y As with
 |nil=>exact⟨[],_,[],_,rfl,rfl,.nil,q⟩
 |cons o g1 ih=>cases q with
  |no q=>obtain⟨s1,s2,a1,a2,rfl,rfl,h1,h2⟩:=ih q;exact⟨_::s1,s2,a1,a2,rfl,rfl,.no h1,h2⟩
  |dat r q=>obtain⟨s1,s2,a1,a2,rfl,rfl,h1,h2⟩:=ih q;exact⟨_::s1,s2,a1,a2,rfl,rfl,.dat r h1,h2⟩
  |own e r q=>obtain⟨s1,s2,a1,a2,rfl,rfl,h1,h2⟩:=ih q;exact⟨_::s1,s2,_::a1,a2,rfl,rfl,.own e r h1,h2⟩
theorem S.shrink{gb:G}{τ:Sg}{l:List D}{i:Nat}{a:Addr}(s:S z gb (Y++τ) As M H)(hz:∀p∈z.lent,p.1<Y.length)(hi:Y.length<=i)(e1:gb[i]?=some (.own l))(e2:(Y++τ)[i]?=some (some (.ref a))) :
  ∃A1,S z (gb.take Y.length) Y A1 M H/\a∈M/\a∉A1:=by
 have hl:=s.sl.length;rw[eC]at hl;have q:=s.sl;rw[<- A7 Y.length gb]at q;obtain⟨σ1,σ2,A1,A2,h1,h2,h3,h4⟩:=q.split;have l1:=h3.length;rw[u8,Nat.min_eq_left ⋯]at l1;obtain⟨rfl,rfl⟩:=List.append_inj h1 l1;subst h2;have hA2:a∈A2:=by
  obtain⟨b,xs,f1,f2,_⟩:=h4.at (i:=i - Y.length) (l:=l) (by rw[List.getElem?_drop,Nat.add_sub_cancel' hi];exact e1)
  rw[eQ hi]at e2;rw[e2]at f1;injection f1 with f1;injection f1 with f1;injection f1 with f1;exact f1▸f2
 have tk:∀(j:Nat) (o:Slot),(gb.take Y.length)[j]?=some o->gb[j]?=some o/\j<Y.length:=λj o e=>by
  have hj:=(dA.mp e).1;rw[u8]at hj;have hj':j<Y.length:=fA hj (Nat.min_le_left _ _);rw[pE hj']at e;exact⟨e,hj'⟩
 refine⟨A1,⟨h3,(y8.mp s.nd).1,λb hb=>s.sub b (u4 _ hb),λj b l' c1 c2=>?_,s.live,s.keep,s.kY,s.m0,s.bm,λp hp=>?_,s.tab,s.tm,s.tt⟩,s.sub a (i7 _ hA2),λhA=>(y8.mp s.nd).2.2 a hA a hA2 rfl⟩
 . obtain⟨c3,c4⟩:=tk j _ c1;exact s.own j b l' c3 (by rw[dS c4];exact c2)
 . obtain⟨c1,l',c2⟩:=s.jz p hp;have tF:=hz p hp;rw[dS tF]at c1;exact⟨c1,l',by rw[pE tF];exact c2⟩
theorem dP(h:uN is (Y++τ) σ')(hi:∀i∈is,Y.length<=i):∃τ',σ'=Y++τ':=by
 refine⟨σ'.drop Y.length,?_⟩;have e:σ'.take Y.length=Y:=by
  apply List.ext_getElem?;intro j;rcases v6 j Y.length with hj |hj
  . rw[pE hj,h.2 j (λz=>Nat.not_lt.mpr (hi j z) hj),dS hj]
  . rw[A5 (by rw[u8];exact kA (Nat.min_le_left _ _) hj),A5 hj]
 have:=(A7 Y.length σ').symm;rw[e]at this;exact this
end
section
def Bu(X:Cx)(tg:Expr):TG:=λv Y H Q=>∃t,PG X tg t/\t v Y H Q
theorem jD:PG X tg (Bu X tg):=λL s Y H v u Q I r h=>let ⟨t,q,k⟩:=h;q L s Y H v u Q I r k
def FP(X:Cx)(ifs:List Expr):TT:=λY H Q=>∃t,jY X ifs t/\t Y H Q
theorem lz:jY X ifs (FP X ifs):=λL s Y H Q I h=>let ⟨t,q,k⟩:=h;q L s Y H Q I k
def Bv(X:Cx)(e:Expr):TE:=λY H Q=>∃t,PE X e t/\t Y H Q
theorem lA:PE X e (Bv X e):=λL s Y H Q I h=>let ⟨t,q,k⟩:=h;q L s Y H Q I k
theorem o7(hw:dJ X z tg iter g aj g1)(ht:∀b:Bk,gQ (X.blk N' scope b) z tg T)(hT:∀i∈T.ix,g1.length<=i/\i<g1.length+k)
  (hcp:jj T (g1.length+k) (λg b g'=>∀bk:Bk,dG (X.blk N' scope bk) z ifs g b g') (λg d g'=>∀bk:Bk,aA (X.blk N' scope bk) z cO g (.dat d) g') aj (gC k g1) gE) (hacc:gE[g1.length+k]?=some (.own acc)) :
  ∃wi,PI X tg iter wi/\∀Y As M H Q,S z g Y As M H->Kn z (gE.take g1.length) Y M H (.new acc) Q->qZ X k wi (λb=>Bu (X.blk N' scope b) tg) (λb=>FP (X.blk N' scope b) ifs) (λD b=>qE D (Bv (X.blk N' scope b) cO)) Y H Q:=by
 obtain⟨wi,q,kw⟩:=hw;refine⟨wi,q,λY As M H Q s kq=>kw Y As M H _ s λJ H1 aY M1 s1 dH hJ D hD=>?_⟩
 have hl:g1.length=Y.length:=s1.sl.length;have hz:∀p∈z.lent,p.1<Y.length:=λp hp=>(dA.mp (s1.jz p hp).1).1
 have Ju:∀i∈T.ix,Y.length<=i:=λi hi=>by rw[<- hl];exact (hT i hi).1
 have dg:g1.length+k∉T.ix:=λh=>mP _ (hT _ h).2
 have s1':=s1.aV (xs:=[]) hD;have h0:z.H0 D=none:=s1.cH hD;have nA:D∉aY:=λh=>s1.fresh hD (s1.sub D h)
 have sb:=s1'.extend (k:=k) (l:=[]) c8 nA h0 aG .nil;have FQ:(Y++(List.replicate k none++[some (V.ref D)]))[g1.length+k]?=some (some (V.ref D)):=by
  rw[hl,eQ (CI _ _),oP,eQ (by rw[i6];exact eD _),i6,Nat.sub_self]
  rfl
 refine⟨λi m σ' H'=>i+m=aj.length/\∃gb Ab Mb τ,S z gb σ' Ab Mb H'/\az M1 H1 Mb H'/\σ'=Y++τ/\σ'[g1.length+k]?=some (some (.ref D))/\jj T (g1.length+k) (λg b g'=>∀bk:Bk,dG (X.blk N' scope bk) z ifs g b g') (λg d g'=>∀bk:Bk,aA (X.blk N' scope bk) z cO g (.dat d) g') (aj.drop i) gb gE,
  ⟨aj.length,by lia,_,_,_,_,sb,az.aV hD,rfl,FQ,hcp⟩,?_⟩
 rintro i m σ' H' ⟨Xm,gb,Ab,Mb,τ,s2,aN,rfl,Bw,cp⟩;obtain⟨hgo,hstop⟩:=hJ Mb H' aN;cases e:aj[i]? with
 |none=>
  have hi:i=aj.length:=by have:=oT.mp e;lia
  subst hi;rw[AS]at cp;cases cp;refine .inl ⟨hstop,?_⟩;obtain⟨a,xs,f1,f2,f3,f4⟩:=s2.sl.at hacc;rw[Bw]at f1;injection f1 with f1;injection f1 with f1;injection f1 with f1;subst f1;obtain⟨A1,s3,m3,n3⟩:=s2.shrink hz ⋯ hacc Bw;rw[<- hl]at s3;exact kq _ H' A1 Mb s3 (dH.trans aN) ⟨D,xs,rfl,m3,n3,h0,f3,f4⟩
 |some d=>
  obtain⟨go,yl⟩:=hgo i d e;rw[drop_cons e]at cp;have hi:i<aj.length:=(dA.mp e).1;refine .inr ⟨go,λσ' H'=>∃gb Ab Mb τ,S z gb σ' Ab Mb H'/\az M1 H1 Mb H'/\σ'=Y++τ/\σ'[g1.length+k]?=some (some (.ref D))/\jj T (g1.length+k) (λg b g'=>∀bk:Bk,dG (X.blk N' scope bk) z ifs g b g') (λg d g'=>∀bk:Bk,aA (X.blk N' scope bk) z cO g (.dat d) g') (aj.drop (i+1)) gb gE,
   λBg Bh hN=>⟨m - 1,by lia,by lia,hN⟩,λx H2 hx bk _=>?_⟩
  obtain⟨s3,eK,rx⟩:=yl x H2 hx z gb (Y++τ) Ab rfl s2;obtain⟨t,qt,kt⟩:=ht bk;cases cp with
  |skip e0 hc rest=>
   refine⟨t,qt,kt d gb _ e0 x _ Ab Mb H2 _ s3 rx λσ4 jC s4 ag=>?_⟩
   obtain⟨τ',rfl⟩:=dP ag Ju;obtain⟨t2,q2,k2⟩:=hc bk;refine⟨t2,q2,k2 _ jC Mb H2 _ s4 λH5 DG M5 s5 kT=>?_⟩
   refine qD ⟨_,DG,M5,τ',s5,(aN.trans eK).trans kT,rfl,?_,rest⟩;rw[ag.2 _ dg];exact Bw
  |take e0 hc he ha hz' rest=>
   refine⟨t,qt,kt d gb _ e0 x _ Ab Mb H2 _ s3 rx λσ4 jC s4 ag=>?_⟩
   obtain⟨τ',rfl⟩:=dP ag Ju;obtain⟨t2,q2,k2⟩:=hc bk;obtain⟨t3,q3,k3⟩:=he bk;have K9:(Y++τ')[g1.length+k]?=some (some (V.ref D)):=by rw[ag.2 _ dg];exact Bw
   refine⟨t2,q2,k2 _ jC Mb H2 _ s4 λH5 DG M5 s5 kT=>kW ⟨t3,q3,k3 _ DG M5 H5 _ s5 λv H6 RQ M6 s6 Oo R6=>?_⟩⟩
   obtain⟨a,xs,f1,f2,f3,f4⟩:=s6.sl.at ha;rw[K9]at f1;injection f1 with f1;injection f1 with f1;injection f1 with f1;subst f1;obtain⟨s7,st7⟩:=s6.write ha K9 (f4.append (.cons R6 .nil));refine⟨xs,f3,by rw[<- f4.length,nS];exact hz',_,RQ,M6,τ',s7,(((aN.trans eK).trans kT).trans Oo).trans st7,rfl,K9,rest⟩
theorem La(B:bR X.env.scope scope)(hc:X.calm=true)(hN:Names X.N N' scope k)(hw:dJ X z tg iter g aj g1)(ht:∀b:Bk,gQ (X.blk N' scope b) z tg T)(hT:∀i∈T.ix,g1.length<=i/\i<g1.length+k)
  (hcp:jj T (g1.length+k) (λg b g'=>∀bk:Bk,dG (X.blk N' scope bk) z ifs g b g') (λg d g'=>∀bk:Bk,aA (X.blk N' scope bk) z cO g (.dat d) g') aj (gC k g1) gE) (hacc:gE[g1.length+k]?=some (.own acc))
  (hs:∀x,foldedSetIterable iter X.env x=pure x):aA X z (.ListComp cO [⟨tg,iter,ifs,0⟩] scope pos) g (.new acc) (gE.take g1.length):=by
 obtain⟨wi,q,kk⟩:=o7 hw ht hT hcp hacc;exact⟨_,Kq B hc hN q (λb=>⟨jD,lz,lA⟩) hs,kk⟩
theorem Lb(B:bR X.env.scope scope)(hc:X.calm=true)(hN:Names X.N N' scope k)(hw:dJ X z tg iter g aj g1)(ht:∀b:Bk,gQ (X.blk N' scope b) z tg T)(hT:∀i∈T.ix,g1.length<=i/\i<g1.length+k)
  (hcp:jj T (g1.length+k) (λg b g'=>∀bk:Bk,dG (X.blk N' scope bk) z ifs g b g') (λg d g'=>∀bk:Bk,aA (X.blk N' scope bk) z cO g (.dat d) g') aj (gC k g1) gE) (hacc:gE[g1.length+k]?=some (.own acc))
  (Ez:X.N.Nodup) (hy:X.N[i]?=some y) (hl:X.env.scope.names.lookup y=some .local) (hb:i∉z.bor) (hi:i<(gE.take g1.length).length)
  (hsw:swapsWith (.ListComp cO [⟨tg,iter,ifs,0⟩] scope pos) (some (.Name y py)) bY.line X.env=pure true)
  (hs:∀x,foldedSetIterable iter X.env x=pure x):iu X z (.Assign [.Name y py] (.ListComp cO [⟨tg,iter,ifs,0⟩] scope pos) bY) g .nx ((gE.take g1.length).set i (.own acc)):=by
 obtain⟨wi,q,kk⟩:=o7 hw ht hT hcp hacc;refine⟨_,zA B hc hN q (λb=>⟨jD,lz,lA⟩) Ez hy hl hsw hs,λY As M H E s kE=>kk Y As M H _ s λv H' aF M' s' st R=>?_⟩
 obtain⟨a,xs,rfl,hm,hA,h0,ha,rr⟩:=R;obtain⟨bI,s2⟩:=s'.oH hb hi hm hA h0 ha rr;exact kE _ bI M' H' s2 st
end
section
theorem aA.run(he:aA X z e g r g1)(I:L2.Inv X L Y H s)(st:S z g Y As M H)
  (k:∀v u s1 H1 aY M1,L2.Inv X L Y H1 s1->RelV v u->S z g1 Y aY M1 H1->az M H M1 H1->fX z g1 Y aY M1 H1 r v->Post u s1):wpAny (~~~2) X.A (eval e X.env) Post X.xe s:=by
 obtain⟨t,q,kt⟩:=he;exact cz (q L s Y H (λv H1=>∃aY M1,S z g1 Y aY M1 H1/\az M H M1 H1/\fX z g1 Y aY M1 H1 r v) I (kt Y As M H _ st λv H1 aY M1 s1 dH R=>⟨aY,M1,s1,dH,R⟩)) λu s1 ⟨v,H1,I1,r1,aY,M1,q1,q2,q3⟩=>k v u s1 H1 aY M1 I1 r1 q1 q2 q3
theorem mF.run(ho:mF X z f d1 d2 r)(I:L2.Inv X L Y H s)(st:S z g Y As M H)(p1:Pk z.K M H d1 v1)(p2:Pk z.K M H d2 v2)(r1:RelV v1 u1)(r2:RelV v2 u2)
  (k:∀v u s1 H1 aY M1,L2.Inv X L Y H1 s1->RelV v u->S z g Y aY M1 H1->az M H M1 H1->fX z g Y aY M1 H1 r v->Post u s1):wpAny (~~~2) X.A (f u1 u2) Post X.xe s:=by
 obtain⟨rr,o,ko⟩:=ho;exact cz (o L s Y H v1 v2 u1 u2 (λv H1=>∃aY M1,S z g Y aY M1 H1/\az M H M1 H1/\fX z g Y aY M1 H1 r v) I r1 r2 (ko g Y As M H v1 v2 _ st p1 p2 λv H1 aY M1 s1 dH R=>⟨aY,M1,s1,dH,R⟩)) λu s1 ⟨v,H1,I1,r1,aY,M1,q1,q2,q3⟩=>k v u s1 H1 aY M1 I1 r1 q1 q2 q3
theorem aA.of (h:∀(L: ~~~1) (s:Shared) (Y:Sg) (As M:List Addr) (H:Hp) (Post:Value->Shared->Prop),L2.Inv X L Y H s->S z g Y As M H->
  (∀v u s1 H1 aY M1,L2.Inv X L Y H1 s1->RelV v u->S z g1 Y aY M1 H1->az M H M1 H1->fX z g1 Y aY M1 H1 r v->Post u s1)->wpAny (~~~2) X.A (eval e X.env) Post X.xe s):aA X z e g r g1:=
 ⟨λY H Q=>∃As M,S z g Y As M H/\Kn z g1 Y M H r Q,λL s Y H Q I ⟨As,M,st,k⟩=>h L s Y As M H _ I st λv u s1 H1 aY M1 I1 r1 q1 q2 q3=>⟨v,H1,I1,r1,k v H1 aY M1 q1 q2 q3⟩,λY As M H Q s k=>⟨As,M,s,k⟩⟩
theorem dI.of (h:∀(L: ~~~1) (s:Shared) (Y:Sg) (As M:List Addr) (H:Hp) (Post:Bool->Shared->Prop),L2.Inv X L Y H s->S z g Y As M H->
  (∀s1 H1 aY M1,L2.Inv X L Y H1 s1->S z g1 Y aY M1 H1->az M H M1 H1->Post b s1)->wpAny (~~~2) X.A (isTrue e X.env (eval e X.env)) Post X.xe s):dI X z e g b g1:=
 ⟨λY H Q=>∃As M,S z g Y As M H/\(∀H' aF M',S z g1 Y aF M' H'->az M H M' H'->Q b H'),λL s Y H Q I ⟨As,M,st,k⟩=>h L s Y As M H _ I st λs1 H1 aY M1 I1 q1 q2=>⟨H1,I1,k H1 aY M1 q1 q2⟩,λY As M H Q s k=>⟨As,M,s,k⟩⟩
inductive tH(X:Cx)(z:Z):D->List CmpOp->List Expr->G->Bool->G->Prop
 |last {d1 d2:D}{op:CmpOp}{b:Expr}{g g1:G}{c:Bool}:aA X z b g (.dat d2) g1->mF X z (compareOp op) d1 d2 (.dat (.bl c))->tH X z d1 [op] [b] g c g1
 |stop {d1 d2:D}{op op':CmpOp}{ops:List CmpOp}{b b':Expr}{bs:List Expr}{g g1:G}:aA X z b g (.dat d2) g1->mF X z (compareOp op) d1 d2 (.dat (.bl false))->tH X z d1 (op::op'::ops) (b::b'::bs) g false g1
 |link {d1 d2:D}{op op':CmpOp}{ops:List CmpOp}{b b':Expr}{bs:List Expr}{g g1 g2:G}{c:Bool}:aA X z b g (.dat d2) g1->mF X z (compareOp op) d1 d2 (.dat (.bl true))->tH X z d2 (op'::ops) (b'::bs) g1 c g2->tH X z d1 (op::op'::ops) (b::b'::bs) g c g2
theorem RT(h:tH X z d1 ops bs g c g'):∀(L: ~~~1) (s:Shared) (Y:Sg) (H:Hp) (As M:List Addr) (Post:Value->Shared->Prop) (v1:V) (u1:Value),L2.Inv X L Y H s->S z g Y As M H->Rep z.K M H d1 v1->RelV v1 u1->
  (∀s1 H' aF M',L2.Inv X L Y H' s1->S z g' Y aF M' H'->az M H M' H'->Post (.bool c) s1)->wpAny (~~~2) X.A (compareChain pos u1 ops (evalEach bs X.env)) Post X.xe s:=by
 induction h with
 |@last d1 d2 op b g g1 c he ho=>
  intro L s Y H As M Post v1 u1 I st r rv k;show wpAny _ X.A (compareChain pos u1 [op] [eval b X.env]) _ _ s;refine chain_last (he.run I st λv u s1 H1 aY M1 I1 r1 q1 q2 q3=>ho.run I1 q1 (.of (r.stay q2)) (.of q3) rv r1 λv' u' s2 H2 bI M2 I2 r2 p1 p2 p3=>?_)
  rw[gP p3]at r2;cases r2;exact k s2 H2 bI M2 I2 p1 (q2.trans p2)
 |@stop d1 d2 op op' ops b b' bs g g1 he ho=>
  intro L s Y H As M Post v1 u1 I st r rv k;show wpAny _ X.A (compareChain pos u1 (op::op'::ops) (eval b X.env::eval b' X.env::evalEach bs X.env)) _ _ s;refine chain_link (he.run I st λv u s1 H1 aY M1 I1 r1 q1 q2 q3=>ho.run I1 q1 (.of (r.stay q2)) (.of q3) rv r1 λv' u' s2 H2 bI M2 I2 r2 p1 p2 p3=>?_)
  rw[gP p3]at r2;cases r2;exact nV (ite_ff (k s2 H2 bI M2 I2 p1 (q2.trans p2)))
 |@link d1 d2 op op' ops b b' bs g g1 g2 c he ho hch ih=>
  intro L s Y H As M Post v1 u1 I st r rv k;show wpAny _ X.A (compareChain pos u1 (op::op'::ops) (eval b X.env::eval b' X.env::evalEach bs X.env)) _ _ s;refine chain_link (he.run I st λv u s1 H1 aY M1 I1 r1 q1 q2 q3=>ho.run I1 q1 (.of (r.stay q2)) (.of q3) rv r1 λv' u' s2 H2 bI M2 I2 r2 p1 p2 p3=>?_)
  rw[gP p3]at r2;cases r2;exact nV (ite_tt (ih L s2 Y H2 bI M2 Post v u I2 p1 (Rep.stay p2 q3) r1 λs3 H3 kO M3 I3 w1 w2=>k s3 H3 kO M3 I3 w1 ((q2.trans p2).trans w2)))
theorem Lc(h:tH X z d1 ops bs g c g'):∀(L: ~~~1) (s:Shared) (Y:Sg) (H:Hp) (As M:List Addr) (Post:Bool->Shared->Prop) (v1:V) (u1:Value),L2.Inv X L Y H s->S z g Y As M H->Rep z.K M H d1 v1->RelV v1 u1->
  (∀s1 H' aF M',L2.Inv X L Y H' s1->S z g' Y aF M' H'->az M H M' H'->Post c s1)->wpAny (~~~2) X.A (testChain pos u1 ops (evalEach bs X.env)) Post X.xe s:=by
 induction h with
 |@last d1 d2 op b g g1 c he ho=>
  intro L s Y H As M Post v1 u1 I st r rv k;show wpAny _ X.A (testChain pos u1 [op] [eval b X.env]) _ _ s;refine test_last (he.run I st λv u s1 H1 aY M1 I1 r1 q1 q2 q3=>ho.run I1 q1 (.of (r.stay q2)) (.of q3) rv r1 λv' u' s2 H2 bI M2 I2 r2 p1 p2 p3=>?_)
  rw[gP p3]at r2;cases r2;exact nV (k s2 H2 bI M2 I2 p1 (q2.trans p2))
 |@stop d1 d2 op op' ops b b' bs g g1 he ho=>
  intro L s Y H As M Post v1 u1 I st r rv k;show wpAny _ X.A (testChain pos u1 (op::op'::ops) (eval b X.env::eval b' X.env::evalEach bs X.env)) _ _ s;refine test_link (he.run I st λv u s1 H1 aY M1 I1 r1 q1 q2 q3=>ho.run I1 q1 (.of (r.stay q2)) (.of q3) rv r1 λv' u' s2 H2 bI M2 I2 r2 p1 p2 p3=>?_)
  rw[gP p3]at r2;cases r2;exact nV (ite_ff (k s2 H2 bI M2 I2 p1 (q2.trans p2)))
 |@link d1 d2 op op' ops b b' bs g g1 g2 c he ho hch ih=>
  intro L s Y H As M Post v1 u1 I st r rv k;show wpAny _ X.A (testChain pos u1 (op::op'::ops) (eval b X.env::eval b' X.env::evalEach bs X.env)) _ _ s;refine test_link (he.run I st λv u s1 H1 aY M1 I1 r1 q1 q2 q3=>ho.run I1 q1 (.of (r.stay q2)) (.of q3) rv r1 λv' u' s2 H2 bI M2 I2 r2 p1 p2 p3=>?_)
  rw[gP p3]at r2;cases r2;exact nV (ite_tt (ih L s2 Y H2 bI M2 Post v u I2 p1 (Rep.stay p2 q3) r1 λs3 H3 kO M3 I3 w1 w2=>k s3 H3 kO M3 I3 w1 ((q2.trans p2).trans w2)))
theorem FT(ha:aA X z a g (.dat d1) g1)(h:tH X z d1 (Ld::Le::ops) (b1::b2::bs) g1 c g2)(hm:lastMarks (Ld::Le::ops) (b1::b2::bs)=false):aA X z (.Compare a (Ld::Le::ops) (b1::b2::bs) pos) g (.dat (.bl c)) g2:=
 aA.of λL s Y As M H Post I st k=>Compare_chain (ha.run I st λv u s1 H1 aY M1 I1 r1 q1 q2 q3=>RT h L s1 Y H1 aY M1 Post v u I1 q1 q3 r1 λs2 H2 bI M2 I2 p1 p2=>k (.bl c) (.bool c) s2 H2 bI M2 I2 rfl p1 (q2.trans p2) (.bl c)) hm
theorem FW(ha:aA X z a g (.dat d1) g1)(h:tH X z d1 (Ld::Le::ops) (b1::b2::bs) g1 c g2)(hm:lastMarks (Ld::Le::ops) (b1::b2::bs)=false):dI X z (.Compare a (Ld::Le::ops) (b1::b2::bs) pos) g c g2:=
 dI.of λL s Y As M H Post I st k=>isTrue_chain (ha.run I st λv u s1 H1 aY M1 I1 r1 q1 q2 q3=>Lc h L s1 Y H1 aY M1 Post v u I1 q1 q3 r1 λs2 H2 bI M2 I2 p1 p2=>k s2 H2 bI M2 I2 p1 (q2.trans p2)) hm
inductive nD(X:Cx)(z:Z)(c:Expr)(body:List Stmt):Nat->G->Fl->G->Prop
 |done {n:Nat}{g g1:G}:dI X z c g false g1->nD X z c body n g .nx g1
 |next {n:Nat}{g g1 g2 g3:G}{f:Fl}:dI X z c g true g1->fD X z body g1 .nx g2->nD X z c body n g2 f g3->nD X z c body (n+1) g f g3
 |cont {n:Nat}{g g1 g2 g3:G}{f:Fl}:dI X z c g true g1->fD X z body g1 .ct g2->nD X z c body n g2 f g3->nD X z c body (n+1) g f g3
 |brk {n:Nat}{g g1 g2:G}:dI X z c g true g1->fD X z body g1 .bk g2->nD X z c body n g .nx g2
 |ret {n:Nat}{g g1 g2:G}{r:R}:dI X z c g true g1->fD X z body g1 (.rt r) g2->nD X z c body n g (.rt r) g2
def Xo(X:Cx)(e:Expr):TT:=λY H Q=>∃t,PT X e t/\t Y H Q
theorem RV{e:Expr}:PT X e (Xo X e):=λL s Y H Q I h=>let ⟨t,q,k⟩:=h;q L s Y H Q I k
theorem FZ{ce:Expr}{body:List Stmt}{n:Nat}{f:Fl}{g':G}(hp:PassesOwn (~~~2) X.A X.env X.xe)(h:nD X z ce body n g f g'):iu X z (.While ce body [] pos) g f g':=by
 refine⟨_,Eg hp RV zB,λY As M H E s k=>?_⟩
 refine⟨λm σ2 H2=>∃g2 bI M2,S z g2 σ2 bI M2 H2/\az M H M2 H2/\nD X z ce body m g2 f g',⟨n,g,As,M,s,az.refl _ _,h⟩,?_⟩
 rintro m σ2 H2 ⟨g2,bI,M2,s2,aN,w⟩;cases w with
 |done hc=>obtain⟨t,q,kt⟩:=hc;exact⟨t,q,kt σ2 bI M2 H2 _ s2 λH3 kO M3 s3 eK=>qD (k σ2 kO M3 H3 s3 (aN.trans eK))⟩
 |@next m' _ g3 g4 _ _ hc hb w'=>
  obtain⟨t,q,kt⟩:=hc;obtain⟨tb,qb,kb⟩:=hb;refine⟨t,q,kt σ2 bI M2 H2 _ s2 λH3 kO M3 s3 eK=>kW ⟨λσ' H'=>∃g2 bI M2,S z g2 σ' bI M2 H'/\az M H M2 H'/\nD X z ce body m' g2 f g',λσ' H' hN=>⟨m',mE _,hN⟩,tb,qb,kb σ2 kO M3 H3 _ s3 λσ4 jC M4 H4 s4 qG=>?_⟩⟩
  exact⟨g4,jC,M4,s4,(aN.trans eK).trans qG,w'⟩
 |@cont m' _ g3 g4 _ _ hc hb w'=>
  obtain⟨t,q,kt⟩:=hc;obtain⟨tb,qb,kb⟩:=hb;refine⟨t,q,kt σ2 bI M2 H2 _ s2 λH3 kO M3 s3 eK=>kW ⟨λσ' H'=>∃g2 bI M2,S z g2 σ' bI M2 H'/\az M H M2 H'/\nD X z ce body m' g2 f g',λσ' H' hN=>⟨m',mE _,hN⟩,tb,qb,kb σ2 kO M3 H3 _ s3 λσ4 jC M4 H4 s4 qG=>?_⟩⟩
  exact⟨g4,jC,M4,s4,(aN.trans eK).trans qG,w'⟩
 |brk hc hb=>obtain⟨t,q,kt⟩:=hc;obtain⟨tb,qb,kb⟩:=hb;exact⟨t,q,kt σ2 bI M2 H2 _ s2 λH3 kO M3 s3 eK=>kW ⟨λ_ _=>False,λσ' H' hN=>hN.elim,tb,qb,kb σ2 kO M3 H3 _ s3 λσ4 jC M4 H4 s4 qG=>k σ4 jC M4 H4 s4 ((aN.trans eK).trans qG)⟩⟩
 |ret hc hb=>obtain⟨t,q,kt⟩:=hc;obtain⟨tb,qb,kb⟩:=hb;exact⟨t,q,kt σ2 bI M2 H2 _ s2 λH3 kO M3 s3 eK=>kW ⟨λ_ _=>False,λσ' H' hN=>hN.elim,tb,qb,kb σ2 kO M3 H3 _ s3 λv σ4 jC M4 H4 s4 qG R=>k v σ4 jC M4 H4 s4 ((aN.trans eK).trans qG) R⟩⟩
noncomputable def Lf:D->Option Bool
 |.bl b=>some b
 |.non=>some false
 |.int i=>some (i != 0)
 |.lst l=>some (!l.isEmpty)
 |.tup l=>some (!l.isEmpty)
 |.fix l=>some (!l.isEmpty)
 |_=>none
end
end Ev
namespace HT
section
theorem jk{t sl:Addr}{aj:Array Value}{vl vu:Value}{lo hi:Option Int}{Q:Value->Shared->Prop}(ht:IsTup s.heap t aj)(hs:s.heap.IsSliceOf sl vl vu .none)(pl:IsPart vl lo)(pu:IsPart vu hi)
  (hw:cG aj.size 0 lo=0/\cG aj.size aj.size hi=aj.size)
  (h:Q (.ref t) s):wpAny (model prog w) A (getItem (.ref t) (.ref sl)) Q E s:=by
 obtain⟨os,hos,hcs,hds⟩:=id hs;have WD:s.TypeIs (.ref sl) "slice" :=⟨os,hos,hcs⟩;unfold getItem
 try with_reducible refine lL ?_
 first |refine aS (d5 ?_) |skip
 refine aS (wpAny_sequenceKey ht.typeIs ⋯ ?_);refine aS (sR (name:=Str.ofString "__getitem__") ht.typeIs oC
  (vS oC ht.typeIs entry_tuple_getitem ?_ (args_tuple_getitem _ _)))
 show wpAny _ _ (Builtin.Tuple.tupleItemsOf (.ref t) >>= _) _ _ s;refine aS (tupleItemsOf_ ht ?_);refine aS (Co WD ?_);rw[fN ⋯];refine aS (gI hs pl pu ?_);have hyes:(((cG aj.size 0 lo:Nat):Int)==0&&(1:Int)==1&&(cG aj.size aj.size hi - cG aj.size 0 lo)==aj.size)=true:=by rw[hw.1,hw.2];simp
 show wpAny _ _ (if (((cG aj.size 0 lo:Nat):Int)==0&&(1:Int)==1&&(cG aj.size aj.size hi - cG aj.size 0 lo)==aj.size)=true then _ else _) _ _ s
 rw[fN hyes];refine aS (m:=Builtin.Tuple.tupleIsExact _) (aS (Co ht.typeIs (d5 ?_)));rw[fN ⋯];exact aS (C1 (d5 ⟨_,rfl,d5 h⟩))
end
end HT
namespace Ev
open L2
def lB{α:Type}(xs:List α)(lo hi:Option Int):List α:=(xs.drop (HT.cG xs.length 0 lo)).take (HT.cG xs.length xs.length hi - HT.cG xs.length 0 lo)
theorem xW{α:Type}{xs:List α}{lo hi:Option Int}(h:HT.cG xs.length 0 lo=0/\HT.cG xs.length xs.length hi=xs.length):lB xs lo hi=xs:=by unfold lB;rw[h.1,h.2,List.drop_zero,Nat.sub_zero,List.take_length]
section
variable{lo hi:Option Expr}
def rSlA(K:Frag):V->Option Int->Option Int->Hp->VK->Prop:=λx lo hi H Q=>∃a xs,x=.ref a/\fV K H a xs/\
 ((HT.cG xs.length 0 lo=0/\HT.cG xs.length xs.length hi=xs.length/\Q (.ref a) H)\/(¬ (HT.cG xs.length 0 lo=0/\HT.cG xs.length xs.length hi=xs.length)/\∀p,H p=none->Q (.ref p) (upd H p (.tup (sL xs lo hi)))))
theorem Lg:Zu X (rSlA X.K):=by
 intro L s Y H x v vl vu lo hi sl Q I rx hs pl pu h;obtain⟨a,xs,rfl,hx,h⟩:=h;rcases h with ⟨h1,h2,q⟩ |⟨h1,q⟩
 .
  cases rx;obtain⟨its,r,ht,hz⟩:=I.tuple hx;have aL:its.toArray.size=xs.length:=by rw[dC];exact r.length.symm
  refine⟨"tuple",_,PyProof.Rows.slot_tuple_getitem.lookup,ht.typeIs,?_⟩;exact HT.jk ht hs pl pu (by rw[aL];exact⟨h1,h2⟩) ⟨.ref a,H,I,rfl,q⟩
 . exact Qs L s Y H (.ref a) v vl vu lo hi sl Q I rx hs pl pu ⟨a,xs,rfl,hx,h1,q⟩
def tK(X:Cx)(z:Z)(e:Option Expr)(g:G)(o:Option Int)(g':G):Prop:=
 ∃t,PO X e t/\∀Y As M H (Q:Option Int->Hp->Prop),S z g Y As M H->(∀H' aF M',S z g' Y aF M' H'->az M H M' H'->Q o H')->t Y H Q
theorem Bx:tK X z none g none g:=⟨_,Kc,λY As M H Q s k=>k H As M s (az.refl _ _)⟩
theorem By(h:aA X z e g ‹i› g1):tK X z (some e) g (some i) g1:=by
 obtain⟨t,q,k⟩:=h;refine⟨_,Ke q,λY As M H Q s kk=>k Y As M H _ s λv H' aF M' s' st R=>?_⟩
 have R':Rep z.K M' H' (.int i) v:=R;cases R';exact⟨i,rfl,kk H' aF M' s' st⟩
theorem aI.cut{K:Frag}{M:List Addr}{H:Hp}{ds:List D}{vs:List V}(r:aI K M H ds vs)(l u:Option Int):aI K M H (lB ds l u) (sL vs l u):=by unfold lB sL;rw[r.length];exact aI.take _ (aI.drop _ r)
theorem BG{r:R}{l:List D}{d:D}{i j:Option Int}(hK:z.K=X.K)(h:aA X z a g r g1)(h1:tK X z lo g1 i g2)(h2:tK X z hi g2 j g3)(hp:pk r g3=some (.lst l)):aA X z (.Subscript a (.Slice lo hi none p2) pos) g (.new (lB l i j)) g3:=by
 obtain⟨t,q,k⟩:=h;obtain⟨t1,q1,k1⟩:=h1;obtain⟨t2,q2,k2⟩:=h2;refine⟨_,oA zp q q1 q2,λY As M H Q s kk=>k Y As M H _ s λv H1 aY M1 s1 dH R=>k1 Y aY M1 H1 _ s1 λH2 bI M2 s2 aN=>k2 Y bI M2 H2 _ s2 λH3 kO M3 s3 eK=>?_⟩
 obtain⟨b,xs,rfl,e1,e2⟩:=(s3.pk (aN.trans eK) R hp).list;refine⟨b,xs,rfl,cB.of e1,λp hp=>?_⟩
 exact kk _ _ kO (p::M3) (s3.aV hp) (((dH.trans aN).trans eK).trans (az.aV hp)) ⟨p,_,rfl,c8,λhA=>s3.fresh hp (s3.sub p hA),s3.cH hp,aG,(e2.cut i j).stay (az.aV hp)⟩
theorem BJ(hK:z.K=X.K)(h:aA X z a g (.dat (.fix l)) g1)(h1:tK X z lo g1 i g2)(h2:tK X z hi g2 j g3):aA X z (.Subscript a (.Slice lo hi none p2) pos) g (.new (lB l i j)) g3:=by
 obtain⟨t,q,k⟩:=h;obtain⟨t1,q1,k1⟩:=h1;obtain⟨t2,q2,k2⟩:=h2;refine⟨_,oA zp q q1 q2,λY As M H Q s kk=>k Y As M H _ s λv H1 aY M1 s1 dH R=>k1 Y aY M1 H1 _ s1 λH2 bI M2 s2 aN=>k2 Y bI M2 H2 _ s2 λH3 kO M3 s3 eK=>?_⟩
 have R':Rep z.K M3 H3 (.fix l) v:=Rep.stay (aN.trans eK) R;cases R' with
 |@fix _ b xs e1 e2=>
  refine⟨b,xs,rfl,hK▸e1.sq,λp hp=>?_⟩
  exact kk _ _ kO (p::M3) (s3.aV hp) (((dH.trans aN).trans eK).trans (az.aV hp)) ⟨p,_,rfl,c8,λhA=>s3.fresh hp (s3.sub p hA),s3.cH hp,aG,(e2.cut i j).stay (az.aV hp)⟩
theorem BK(hK:z.K=X.K)(h:aA X z a g (.dat (.tup l)) g1)(h1:tK X z lo g1 i g2)(h2:tK X z hi g2 j g3):aA X z (.Subscript a (.Slice lo hi none p2) pos) g (.dat (.tup (lB l i j))) g3:=by
 obtain⟨t,q,k⟩:=h;obtain⟨t1,q1,k1⟩:=h1;obtain⟨t2,q2,k2⟩:=h2;refine⟨_,oA Lg q q1 q2,λY As M H Q s kk=>k Y As M H _ s λv H1 aY M1 s1 dH R=>k1 Y aY M1 H1 _ s1 λH2 bI M2 s2 aN=>k2 Y bI M2 H2 _ s2 λH3 kO M3 s3 eK=>?_⟩
 have R':Rep z.K M3 H3 (.tup l) v:=Rep.stay (aN.trans eK) R;cases R' with
 |@tup _ b xs e1 e2=>
  refine⟨b,xs,rfl,hK▸e1.sq,?_⟩;by_cases hw:HT.cG xs.length 0 i=0/\HT.cG xs.length xs.length j=xs.length
  .
   refine .inl ⟨hw.1,hw.2,kk _ _ kO M3 s3 ((dH.trans aN).trans eK) ?_⟩;have e:lB l i j=l:=xW (by rw[e2.length];exact hw)
   rw[e];exact .tup e1 e2
  . exact .inr ⟨hw,λp hp=>kk _ _ kO M3 (s3.laid hp) (((dH.trans aN).trans eK).trans (az.laid hp)) (.tup (.inl ⟨s3.fresh hp,.inl aG⟩) ((e2.cut i j).stay (az.laid hp)))⟩
theorem Ga(hK:z.K=X.K)(h:aA X z e g r g1)(hp:pk r g1=some d)(hb:Lf d=some b)(he:∀whole,isTrue e X.env whole=(do let v <- whole;standAt e.pos;holding [v] (truthy v))):dI X z e g b g1:=by
 obtain⟨t,q,k⟩:=h;refine⟨_,Ek q he,λY As M H Q s kk=>k Y As M H _ s λv H1 aY M1 s1 dH R=>⟨b,?_,kk H1 aY M1 s1 dH⟩⟩
 have p:=s1.pk (az.refl _ _) R hp;cases d with
 |non=>rw[p.non];cases hb;rfl
 |bl c=>rw[p.bl];cases hb;rfl
 |int i=>rw[p.int];cases hb;rfl
 |str x=>cases hb
 |emp=>cases hb
 |Dy _=>cases hb
 |vg _ _=>cases hb
 |lst l=>obtain⟨a,xs,rfl,e1,e2⟩:=p.list;cases hb;refine .inl ⟨xs,cB.of e1,?_⟩;cases e2 <;> rfl
 |tup l=>obtain⟨a,xs,rfl,e1,e2⟩:=p.tup;cases hb;refine .inr (.inl ⟨xs,hK▸e1.sq,?_⟩);cases e2 <;> rfl
 |fix l=>obtain⟨a,xs,rfl,e1,e2⟩:=p.fix;cases hb;refine .inl ⟨xs,hK▸e1.sq,?_⟩;cases e2 <;> rfl
theorem RW(hn:oZ X x i)(hb:i∉z.bor)(h:aA X z e g (.dat d2) g1)(hg:g[i]?=some (.dat d1))(ho:mF X z (inplaceOp op) d1 d2 (.dat d)) :
  iu X z (.AugAssign (.Name x pos') op e pos) g .nx (g1.set i (.dat d)):=by
 obtain⟨t,q,k⟩:=h;obtain⟨rr,o,ko⟩:=ho;refine⟨_,Ef hn.nd hn.ix hn.lc q (show PIp X op rr from λL s Y H x y v u Q I r1 r2 hq=>o L s Y H x y v u Q I r1 r2 hq) hn.fn,λY As M H E s kk=>?_⟩
 obtain⟨v1,e1,r1⟩:=s.sl.oG hg;refine⟨v1,e1,k Y As M H _ s λv2 H1 aY M1 s1 dH R=>ko g1 Y aY M1 H1 v1 v2 _ s1 (.of (r1.stay dH)) (.of R) λv H2 bI M2 s2 aN R2=>?_⟩
 obtain⟨kO,s3⟩:=s2.kZ (i:=i) hb R2;exact kk _ kO M2 H2 s3 (dH.trans aN)
end
section
structure TyOk(X:Cx)(T:Str)(n:String):Prop where
 gl:Gl X T
 mg:X.mg T=none
 bt:bootBuiltins T=some (.type n)
 nn:T≠ "__name__"
 db:(T==(~~~3))=false
inductive zE(X:Cx):List Expr->List String->Prop
 |nil:zE X [] []
 |cons {T:Str}{n:String}{p:Pos}{es:List Expr}{ns:List String}:TyOk X T n->zE X es ns->zE X (.Name T p::es) (n::ns)
theorem BL(hN:X.N[i]?=some x)(hv:mq X.env.scope x)(hd:(x==(~~~3))=false)(eF:(x==("__classdict__":Str))=false)(hg:g[i]?=some (.own l0))(h:cZ X z [e] g [.dat (.lst m)] g1)(uM:g1[i]?=some (.own l))(hl:l.length+m.length<=16777216)
  (hbase:attributeBase (.Name x pn) "extend" X.env (eval (.Name x pn) X.env)=eval (.Name x pn) X.env)
  (hfew:((backTo bQ (starEach [e] X.env)).all (λx=>!x.1)&&(backToKw bQ (keywordEach [] X.env)).all (λx=>x.1.isSome)
   && decide ([e].length+([]:List Keyword).length+(if ([]:List Keyword).isEmpty then 0 else 1)<30))=true)
  (hline:(dY.endLine==bQ.line)=true) (hs:starEach [e] X.env=(false,eval e X.env)::starEach [] X.env):aA X z (.Call (.Attribute (.Name x pn) "extend" dY) [e] [] bQ) g (.dat .non) (g1.set i (.own (l++m))):=by
 obtain⟨t,q,k⟩:=h;refine⟨_,zq AQ PySem.F.slot_list_extend PySem.F.type_list_extend Bd (dF hN hv hd eF) q hbase hfew hline hs rfl,λY As M H Q s kk=>?_⟩
 obtain⟨a,xs,e1,e2,e3,e4⟩:=s.sl.at hg;refine⟨.ref a,e1,.inl ⟨rfl,xs,cB.of e3⟩,k Y As M H _ s λvs H' aF M' s' st R=>?_⟩
 obtain⟨b,ys,f1,f2,f3,f4⟩:=s'.sl.at uM;rw[e1]at f1;injection f1 with f1;injection f1 with f1;injection f1 with f1;subst f1;cases R with
 |dat r R=>
  cases R;cases r with
  |@lst _ c zs hc rr=>
   refine⟨a,c,ys,zs,rfl,rfl,f3,hc.2,by rw[<- f4.length,<- rr.length,nS];exact hl,?_⟩
   obtain⟨s2,aN⟩:=s'.write uM e1 (f4.append rr);exact kk _ _ aF M' s2 (st.trans aN) .non
end
noncomputable def ins(a:Int): ~~~0->List Int
 | []=>[a]
 |b::l=>if a<=b then a::b::l else b::ins a l
def bh: ~~~0->List Int
 | []=>[]
 |a::l=>ins a (bh l)
theorem o8(a:Int):∀l:List Int,(ins a l).Perm (a::l)
 | []=>y0 _
 |b::l=>by
  unfold ins;split
  . exact y0 _
  . exact ((o8 a l).cons b).trans (List.Perm.swap a b l)
theorem bL:∀l:List Int,(bh l).Perm l
 | []=>y0 _
 |a::l=>(o8 a _).trans ((bL l).cons a)
theorem o9(a:Int):∀{l: ~~~0},l.Pairwise (· <= ·)->(ins a l).Pairwise (· <= ·)
 | [],_=>List.pairwise_singleton _ _
 |b::l,h=>by
  obtain⟨h1,h2⟩:=AG.mp h;unfold ins;split
  .
   rename_i hab;refine AG.mpr ⟨λx hx=>?_,h⟩
   rcases d6.mp hx with rfl |hx
   . exact hab
   . exact Int.le_trans hab (h1 x hx)
  .
   rename_i hab;refine AG.mpr ⟨λx hx=>?_,o9 a h2⟩
   rcases d6.mp ((o8 a l).mem_iff.mp hx)with rfl |hx
   . lia
   . exact h1 x hx
theorem j7:∀l:List Int,(bh l).Pairwise (· <= ·)
 | []=>List.Pairwise.nil
 |a::l=>o9 a (j7 l)
theorem jE(hp:m.Perm l)(hs:m.Pairwise (· <= ·)):m=bh l:=
 (hp.trans (bL l).symm).eq_of_pairwise (λx y _ _ h1 h2=>Int.le_antisymm h1 h2) hs (j7 l)
section
theorem gq(hl:IsTup s.heap l vs.toArray)
  (h:Q vs { s with heap:=(s.heap.push (seqObj "list" #[] 0)).update s⁻¹ (Obj.mapSeq (· ++ vs.toArray))}) (za:vs.length<=sizeLine) :
  wpAny (model prog w) A (collect (.ref l)) Q E s:=by
 obtain⟨o,ho,hc,n,hd⟩:=id hl;unfold collect;refine aS (wpAny_runValue (BQ entry_proto_collect' ?_));show wpAny _ _ (do again (.builtin "list.__iadd__" ⟨[<- newList [],.ref l],[]⟩)) _ _ s
 refine aS (BS (d5 ⟨Code.quiet_builtin _ (by decide +kernel),BQ entry_list_iadd' ?_⟩))
 show wpAny _ _ (Builtin.List.listExtendWith (.ref s⁻¹) (.ref l) (.ref s⁻¹)) _ _ { s with heap:=s.heap.push (seqObj "list" #[] 0)};unfold Builtin.List.listExtendWith;have ho':(s.heap.push (seqObj "list" #[] 0)).get? l=some o:=b0 _ ho;refine aS (Co (T:= "tuple") ⟨o,ho',hc⟩ ?_);have ht:(Value.type "tuple" == Value.type "tuple")=true:=by rfl
 rw[fN (by rw[ht];simp)]
 refine aS (listItems_at ho' hd ?_);refine aS (listItems_at (xs:=#[]) (n:=0) (eJ _ rfl) rfl ?_);rw[hU ⋯];refine aS (listUpdate_at (xs:=#[]) (n:=0) (eJ _ rfl) rfl ?_ (wP _) (by show (#[]++vs.toArray).size<=sizeLine+1;simp only[Array.size_append,dC,AY];lia))
 refine d5 ?_;show wpAny (model prog w) A (do
   let o <- load s⁻¹
   match o.data with
   |.seq xs _=>pure xs.toList
   |_=>unsupported "internal:collect") Q E { s with heap:=(s.heap.push (seqObj "list" #[] 0)).update s⁻¹ (Obj.mapSeq (· ++ vs.toArray))}
 refine aS (wpAny_load (get?_update_seq (eJ _ rfl) _) ?_);show wpAny _ _ (pure ((#[]:Array Value)++vs.toArray).toList) Q E _;rw[show ((#[]:Array Value)++vs.toArray).toList=vs by simp]
 exact d5 h
theorem tL(hl:IsTup s.heap l vs.toArray)(hI:IntsAre vs ns)(h64:vs.length<64)
  (h:∀(out:Array Value) (ns': ~~~0),IntsAre out.toList ns'->ns'.Perm ns->ns'.Pairwise (· <= ·)->Q (.ref (s⁻¹+1)) { s with heap:=sortedAll s.heap vs out}) :
  wpAny (model prog w) A (call (.builtin "sorted") [.ref l]) Q E s:=by
 refine Calls.call_function_entry kind_sorted plain_sorted entry_sorted (args_sorted1 _) ?_;unfold Builtin.«sorted»;refine aS (m:=checkCount "sorted" 1 1 _) (d5 ?_);refine aS (gq hl ?_ (by rw[nS];lia))
 refine aS (BS ?_);have za:((s.heap.push (seqObj "list" #[] 0)).update s⁻¹ (Obj.mapSeq (· ++ vs.toArray))).objs.size=s⁻¹+1:=by rw[BC,size_push']
 have Zn:(((s.heap.push (seqObj "list" #[] 0)).update s⁻¹ (Obj.mapSeq (· ++ vs.toArray))).push (seqObj "list" vs.toArray 0)).get? (s⁻¹+1)=some (seqObj "list" vs.toArray 0):=by rw[<- za];exact eJ _ rfl
 show wpAny _ _ _ _ _ { s with heap:=((s.heap.push (seqObj "list" #[] 0)).update s⁻¹ (Obj.mapSeq (· ++ vs.toArray))).push (seqObj "list" vs.toArray 0)};rw[za];refine aS (lL (vS slot_list_sort ⟨_,Zn,rfl⟩ entry_list_sort (list_sort_tree Zn hI h64 λout ns' a1 a2 a3=>⟨_,rfl,?_⟩) (args_list_sort _)))
 exact d5 ⟨_,rfl,h out ns' a1 a2 a3⟩
end
section
theorem vA:fz X (.builtin "sorted") (λxs H Q=>∃p ns,xs=[.ref p]/\(cB X.K H p (ns.map V.int)\/fV X.K H p (ns.map V.int))/\ns.length<64/\∀q,H q=none->Q (.ref q) (upd H q (.lst ((bh ns).map V.int)))):=by
 intro L s Y H xs us Q I r h;obtain⟨p,ns,rfl,hq,hl,q⟩:=h;obtain⟨u,rfl,rx⟩:=vals1 r;cases rx;have fin:∀(vs:List Value) (out:Array Value) (ns': ~~~0),IntsAre out.toList ns'->ns'.Perm ns->ns'.Pairwise (· <= ·)->EP X L Y Q (.ref (s⁻¹+1)) { s with heap:=sortedAll s.heap vs out}:=λvs out ns' a1 a2 a3=>by
  have e:=jE a2 a3;subst e;obtain⟨ep,he⟩:=sortedAll_at s.heap vs out;have aL:(bh ns).length=ns.length:=(bL ns).length_eq;refine⟨.ref (s⁻¹+1),_,I.laid (t':=s.toks) (o:=.lst ((bh ns).map V.int)) (λb o e=>sortedAll_old e) (AO _) ?_,rfl,q _ (I.hok.fresh (AO _))⟩
  refine⟨by rw[eA,aL,nS];lia,out.toList,ep,iY a1,?_⟩
  rw[he]
 rcases hq with hq |hq
 . obtain⟨its,r',pl,hz⟩:=I.list hq;have aL:=r'.length;rw[eA]at aL;exact sorted_ints pl.isList (intsAre_of r') ⋯ λout ns' a1 a2 a3=>fin its out ns' a1 a2 a3
 . obtain⟨its,r',pl,hz⟩:=I.tuple hq;have aL:=r'.length;rw[eA]at aL;exact tL pl (intsAre_of r') ⋯ λout ns' a1 a2 a3=>fin its out ns' a1 a2 a3
theorem lC{K:Frag}{M:List Addr}{H:Hp}:∀ns:List Int,aI K M H (ns.map D.int) (ns.map V.int)
 | []=>.nil
 |n::ns=>.cons (.int n) (lC ns)
theorem BP(hK:z.K=X.K)(h:bx d=some l)(hi:aR l=some ns)(hl:ns.length<64):CallD X z (.builtin "sorted") [d] (.new ((bh ns).map .int)):=by
 refine⟨_,vA,λg Y As M H vs Q s p k=>?_⟩
 obtain⟨v,rfl,pv⟩:=p.one;have fin:∀q,H q=none->Q (.ref q) (upd H q (.lst ((bh ns).map V.int))):=λq hq=>k _ _ As (q::M) (s.aV hq) (az.aV hq) ⟨q,_,rfl,c8,λhA=>s.fresh hq (s.sub q hA),s.cH hq,aG,lC _⟩
 cases d with
 |lst m=>symm;obtain⟨a,xs,rfl,e1,e2⟩:=pv.list;have:=aU e2 hi;subst this;exact⟨a,ns,rfl,.inl (cB.of e1),hl,fin⟩
 |tup m=>symm;obtain⟨a,xs,rfl,e1,e2⟩:=pv.tup;have:=aU e2 hi;subst this;exact⟨a,ns,rfl,.inr (hK▸e1.sq),hl,fin⟩
 |fix m=>symm;obtain⟨a,xs,rfl,e1,e2⟩:=pv.fix;have:=aU e2 hi;subst this;exact⟨a,ns,rfl,.inl (hK▸e1.sq),hl,fin⟩
 |_=>symm
end
section
def RX(X:Cx)(z:Z)(e:Expr)(g:G)(lo hi:Int)(g1:G):Prop:=
 ∀(L: ~~~1) (s:Shared) (Y:Sg) (As M:List Addr) (H:Hp) (Post:Value->Shared->Prop),L2.Inv X L Y H s->S z g Y As M H->
  (∀r s1 H1 aY M1 t u v,L2.Inv X L Y H1 s1->S z g1 Y aY M1 H1->az M H M1 H1->IsRange s1.heap r lo hi 1 t u v->Post (.ref r) s1)->wpAny (~~~2) X.A (eval e X.env) Post X.xe s
theorem cZ.run(ha:cZ X z es g rs g1)(I:L2.Inv X L Y H s)(st:S z g Y As M H)
  (k:∀vs us s1 H1 aY M1,L2.Inv X L Y H1 s1->Vals vs us->S z g1 Y aY M1 H1->az M H M1 H1->jA z Y M1 H1 rs vs->Post us s1):wpAny (~~~2) X.A (spliced (backTo pos (starEach es X.env))) Post X.xe s:=by
 obtain⟨t,q,kt⟩:=ha;exact cz (q pos L s Y H (λvs H1=>∃aY M1,S z g1 Y aY M1 H1/\az M H M1 H1/\jA z Y M1 H1 rs vs) I (kt Y As M H _ st λvs H1 aY M1 s1 dH R=>⟨aY,M1,s1,dH,R⟩)) λus s1 ⟨vs,H1,I1,r1,aY,M1,q1,q2,q3⟩=>k vs us s1 H1 aY M1 I1 r1 q1 q2 q3
theorem rg_1(h:cZ X z [a] g [‹j›] g1)(hg:Gl X "range")(hm:X.mg "range"=none)(hs:starEach [a] X.env=[(false,eval a X.env)]):RX X z (.Call (.Name "range" p) [a] [] rp) g 0 j g1:=by
 intro L s Y As M H Post I st k;refine Call_ (eL I hg hm boot_range (l8 (h.run I st λvs us s1 H1 aY M1 I1 r1 q1 q2 q3=>?_) hs rfl))
 cases q3 with
 |dat r R=>
  cases R;cases r;cases r1 with
  |cons r rr=>cases rr;obtain⟨t,rfl⟩:=r;exact call_range_1 (k _ _ H1 aY M1 _ _ _ (I1.kept λb o e=>b0 _ e) q1 q2 (IsRange.new ..))
theorem rg_2(h:cZ X z [a,b] g [‹c›,‹j›] g1)(hg:Gl X "range")(hm:X.mg "range"=none)(hs:starEach [a,b] X.env=[(false,eval a X.env),(false,eval b X.env)])(hs2:starEach [b] X.env=[(false,eval b X.env)]):RX X z (.Call (.Name "range" p) [a,b] [] rp) g c j g1:=by
 intro L s Y As M H Post I st k;refine Call_ (eL I hg hm boot_range (l8 (h.run I st λvs us s1 H1 aY M1 I1 r1 q1 q2 q3=>?_) (by rw[hs,hs2]) (by rw[hs2];rfl)))
 cases q3 with
 |dat r R=>
  cases R with
  |dat r' R=>
   cases R;cases r;cases r';cases r1 with
   |cons r rr=>
    cases rr with
    |cons r' rr=>cases rr;obtain⟨t,rfl⟩:=r;obtain⟨t',rfl⟩:=r';exact call_range_2 (k _ _ H1 aY M1 _ _ _ (I1.kept λb o e=>b0 _ e) q1 q2 (IsRange.new ..))
noncomputable def xX(lo:Int)(n:Nat):List V:=(List.range n).map λ(k:Nat)=>V.int (lo+(k:Int))
theorem BR{lo:Int}{n:Nat}{acc:Array Value}(h:ItemsOf (λi v=>∃t,v=Value.int (lo+(i:Int) * 1) t) acc n):Vals (xX lo n) acc.toList:=by
 have key:∀(m:Nat) (l:List Value) (o:Nat),l.length=m->(∀j v,l[j]?=some v->∃t,v=Value.int (lo+((o+j:Nat):Int)) t)->Vals ((List.range' o m).map λ(k:Nat)=>V.int (lo+(k:Int))) l:=by
  intro m
  induction m with
  |zero=>intro l o hl _;cases l with
   |nil=>exact .nil
   |cons _ _=>simp at hl
  |succ m ih=>
   intro l o hl hv;cases l with
   |nil=>simp at hl
   |cons v l=>
    rw[AC,List.map_cons];obtain⟨t,e⟩:=hv 0 v rfl;refine .cons ⟨t,by rw[e];rfl⟩ (ih l (o+1) (by simpa using hl) λj w hw=>?_)
    obtain⟨t',e'⟩:=hv (j+1) w (by simpa using hw)
    exact⟨t',by rw[e',show o+(j+1)=o+1+j by lia]⟩
 unfold xX;rw[u7];refine key n acc.toList 0 (by rw[oD];exact h.1) λj v hv=>?_
 obtain⟨t,e⟩:=h.2 j v (by rw[<- Array.getElem?_toList];exact hv)
 exact⟨t,by rw[e,CB,Int.mul_one]⟩
theorem BV{K:Frag}{M:List Addr}{H:Hp}(lo:Int)(n:Nat):aI K M H (bK lo n) (xX lo n):=by
 unfold bK xX
 induction List.range n with
 |nil=>exact .nil
 |cons k l ih=>exact .cons (.int _) ih
theorem vB{e:Expr}{lo hi:Int}(h:RX X z e g lo hi g1)(hc:X.calm=true)(hg:Gl X "list")(hm:X.mg "list"=none)(hs:starEach [e] X.env=[(false,eval e X.env)])(h1 : -(2 ^ 62)<=lo/\lo<2 ^ 62/\-(2 ^ 62)<=hi/\hi<2 ^ 62)(hl:(hi - lo).toNat<=16777216) :
  aA X z (.Call (.Name "list" lp) [e] [] pos) g (.new (bK lo (hi - lo).toNat)) g1:=by
 refine aA.of λL s Y As M H Post I st k=>?_
 refine Call_ (eL I hg hm (by rfl:bootBuiltins ("list":Str)=some (.type "list")) (l8 ?_ hs rfl))
 rw[hs];show wpAny _ _ (spliced ((false,eval e X.env)::[])) _ _ s;refine Calls.spliced_cons (h L s Y As M H _ I st λr s1 H1 aY M1 t u v I1 q1 q2 hr=>Calls.spliced_nil ?_)
 have hn:Builtin.Range.rangeSize lo hi 1=(((hi - lo).toNat:Nat):Int):=by rw[rangeSize_one];split <;> lia
 refine call_list_range (I1.ok.hd hc) hr (small_one h1.1 h1.2.1 h1.2.2.1 h1.2.2.2) hn hl λh' tk acc' c' hk hS' hacc=>?_
 have hf:H1 s1⁻¹=none:=I1.hok.fresh (eD _);have s2:=q1.aV (xs:=xX lo (hi - lo).toNat) hf;have vv:=BR hacc;have I2:L2.Inv X L Y (upd H1 s1⁻¹ (.lst (xX lo (hi - lo).toNat))) { s1 with heap:=h',toks:=tk}:=
  I1.laid (t':=tk) hk (eD _) (show d9 X.prog X.w _ h' _ (.lst (xX lo (hi - lo).toNat))from⟨by rw[vv.length,oD,hacc.1];exact oK hl,acc'.toList,c',vv,by simpa using hS'⟩)
 exact k (.ref s1⁻¹) _ _ _ aY (s1⁻¹::M1) I2 rfl s2 (q2.trans (az.aV hf)) ⟨_,_,rfl,c8,λhA=>q1.fresh hf (q1.sub _ hA),q1.cH hf,aG,BV _ _⟩
end
section
theorem j8{ns: ~~~0}{its:List Value}(r:Vals (ns.map V.int) its){i:Nat}{v:Value}(h:its[i]?=some v):∃t,v=.int (ns.getD i 0) t:=by
 have hi:i<ns.length:=by have:=(dA.mp h).1;have e:=r.length;rw[eA]at e;lia
 obtain⟨w,e1,e2⟩:=r.get (i:=i) (x:=V.int ns[i]) (by simp[hi])
 rw[h]at e1;cases e1;obtain⟨t,e⟩:=e2;exact⟨t,by rw[e];simp[List.getD,hi]⟩
theorem Gb(hc:X.calm=true):fz X (.builtin "sum") (λxs H Q=>∃(p:Addr) (ns: ~~~0),xs=[.ref p]/\(cB X.K H p (ns.map V.int)\/fV X.K H p (ns.map V.int))/\Q (.int ns.sum) H):=by
 intro L s Y H xs us Q I r h;obtain⟨p,ns,rfl,hp,q⟩:=h;obtain⟨u,rfl,rx⟩:=vals1 r;cases rx;have hh:X.A.in1.handled=none:=I.ok.hd hc;have fin:∀(o:Obj) (s':Shared) (t':Tok) (its:List Value),Vals (ns.map V.int) its->Moved [s⁻¹] (λa b=>b=a) { s with heap:=s.heap.push o} s'->EP X L Y Q (.int (preSum (λi=>ns.getD i 0) its.toArray.size) t') s':=by
  intro o s' t' its rv hm;obtain⟨h',g',d',tk',os'⟩:=s';obtain⟨m1,m2,m3,m4,m5⟩:=hm;have e1:g'=s.gens:=m2;have e2:d'=s.drawn:=m3;have e3:os'=s.os:=m4;subst e1 e2 e3;have aL:its.length=ns.length:=by rw[<- rv.length,eA]
  have I1:L2.Inv X L Y H { s with heap:=h',toks:=tk'}:=I.kept λb ob e=>m1 b ob (λhm=>by
   have:b=s⁻¹:=by simpa using hm
   exact absurd (eR e) (by rw[this];exact mP _)) (b0 _ e)
  refine⟨.int ns.sum,H,I1,⟨t',?_⟩,q⟩;rw[preSum_getD,dC,aL,List.take_length]
 rcases hp with hp |hp
 .
  obtain⟨its,rv,pl,hz⟩:=I.list hp;have hlt:p<s⁻¹:=by obtain⟨_,e,_⟩:=pl.isList;exact eR e
  refine call_sum_walkAnyS (AK pl.isList ?_);refine⟨s⁻¹,_,_,_,_,_,_,λi=>ns.getD i 0,rfl,(Walks.list (A:=X.A.in1) hh s⁻¹ p (l4 hlt) its.toArray).toS,⟨⟨_,eJ _ rfl,rfl,rfl⟩,pl.isList.push _⟩,λb hb=>?_,λi v hv=>j8 rv (by simpa using hv),λs' t' hm=>fin _ s' t' its rv hm⟩
  simp only[d6,kS,yB]at hb;rcases hb with rfl |rfl
  . exact t9 (mE _) (mM _ _).symm
  . exact t9 (y6 hlt) (mM _ _).symm
 .
  obtain⟨its,rv,pl,hz⟩:=I.tuple hp;have hlt:p<s⁻¹:=by obtain⟨_,e,_⟩:=pl;exact eR e
  have Oq:s.heap.IsTuple p its.toArray:=pl;refine call_sum_walkAnyS (t7 Oq ?_);refine⟨s⁻¹,_,_,_,_,_,_,λi=>ns.getD i 0,rfl,(Walks.tuple (A:=X.A.in1) hh s⁻¹ p (l4 hlt) its.toArray).toS,⟨⟨_,eJ _ rfl,rfl,rfl⟩,?_⟩,λb hb=>?_,λi v hv=>j8 rv (by simpa using hv),λs' t' hm=>fin _ s' t' its rv hm⟩
  . exact IsTup.keeps Oq λb o e=>b0 _ e
  .
   simp only[d6,kS,yB]at hb;rcases hb with rfl |rfl
   . exact t9 (mE _) (mM _ _).symm
   . exact t9 (y6 hlt) (mM _ _).symm
theorem RZ(hc:X.calm=true)(hK:z.K=X.K)(h:bx d=some l)(hi:aR l=some ns):CallD X z (.builtin "sum") [d] (.dat (.int ns.sum)):=by
 refine⟨_,Gb hc,λg Y As M H vs Q s p k=>?_⟩
 obtain⟨v,rfl,pv⟩:=p.one;have fin:Q (.int ns.sum) H:=k _ _ As M s (az.refl _ _) (.int _);cases d with
 |lst m=>symm;obtain⟨a,xs,rfl,e1,e2⟩:=pv.list;have:=aU e2 hi;subst this;exact⟨a,ns,rfl,.inl (cB.of e1),fin⟩
 |tup m=>symm;obtain⟨a,xs,rfl,e1,e2⟩:=pv.tup;have:=aU e2 hi;subst this;exact⟨a,ns,rfl,.inr (hK▸e1.sq),fin⟩
 |fix m=>symm;obtain⟨a,xs,rfl,e1,e2⟩:=pv.fix;have:=aU e2 hi;subst this;exact⟨a,ns,rfl,.inl (hK▸e1.sq),fin⟩
 |_=>symm
end
noncomputable def veM:List Value:=[.type "ValueError",.type "Exception",.type "BaseException",.type "object"]
abbrev BW(K:Frag)(C:Addr):Prop:=PySem.W.excIn K C veM "ValueError.__new__"=true
open PySem PySem.W PyProof.Rows
noncomputable def iz{α:Type}(lt:Nat->Nat->Bool):KasT α->α
 |.ret a=>a
 |.ask i j k=>iz lt (k (lt i j))
theorem fc{α β:Type}(lt:Nat->Nat->Bool)(f:α->KasT β):∀t:KasT α,iz lt (t.bind f)=iz lt (f (iz lt t))
 |.ret _=>rfl
 |.ask i j k=>fc lt f (k (lt i j))
structure jF(α:Type) where
 lt:α->α->Bool
 irr:∀a,lt a a=false
 tr:∀a b c,lt a b=true->lt b c=true->lt a c=true
 tot:∀a b,lt a b=false->lt b a=false->a=b
namespace jF
variable{α:Type}(O:jF α)
def le(a b:α):Prop:=O.lt b a=false
variable{O}
theorem le_refl(a:α):O.le a a:=O.irr a
theorem le_of_lt(h:O.lt a b=true):O.le a b:=by
 unfold le;cases e:O.lt b a
 . rfl
 . have:=O.tr _ _ _ h e;rw[O.irr]at this;cases this
theorem rB(h1:O.le a b)(h2:O.le b c):O.le a c:=by
 unfold le at *;cases e:O.lt c a with
 |false=>rfl
 |true=>
  exfalso;cases e1:O.lt a b with
  |true=>have:=O.tr _ _ _ e e1;rw[h2]at this;cases this
  |false=>have hab:=O.tot a b e1 h1;subst hab;rw[h2]at e;cases e
theorem zF(h1:O.le a b)(h2:O.le b a):a=b:=O.tot a b h2 h1
end jF
section
variable{α:Type}
noncomputable def dZ(key:Nat->α)(p:Array Nat)(i:Nat):α:=key (p.getD i 0)
def jl(O:jF α)(key:Nat->α)(p:Array Nat)(n:Nat):Prop:=∀i j,i<=j->j<n->O.le (dZ key p i) (dZ key p j)
def iF(O:jF α)(key:Nat->α)(p:Array Nat)(n:Nat):Prop:=∀i j,i<=j->j<n->O.le (dZ key p j) (dZ key p i)
noncomputable def nO(O:jF α)(key:Nat->α)(i j:Nat):Bool:=O.lt (key i) (key j)
theorem getD_some{p q:Array Nat}{i j:Nat}(h:p[i]?=q[j]?):p.getD i 0=q.getD j 0:=by rw[AA,AA,h]
theorem nP{p:Array Nat}{i j:Nat}(hj:j<=p.size)(k:Nat):dZ key (kas_rev p i j) k=if i<=k/\k<j then dZ key p (i+j - 1 - k)else dZ key p k:=by
 have e:=getElem?_mirror_all (i:=i) hj k;unfold dZ kas_rev;split
 . rename_i h;rw[fN h]at e;rw[getD_some e]
 . rename_i h;rw[hU h]at e;rw[getD_some e]
theorem Lh{p:Array Nat}{src d:Nat}(hs:src<p.size)(hd:d<=src)(k:Nat):dZ key (bubble p src d) k=if k=src - d then dZ key p src else if src - d<k/\k<=src then dZ key p (k - 1)else dZ key p k:=by
 have e:=getElem?_bubble hs d hd k;unfold dZ;by_cases h1:k=src - d
 . rw[fN h1]at e ⊢;rw[getD_some e]
 .
  rw[hU h1]at e ⊢
  by_cases h2:src - d<k/\k<=src
  . rw[fN h2]at e ⊢;rw[getD_some e]
  . rw[hU h2]at e ⊢;rw[getD_some e]
theorem jl.ext(h:jl O key p n)(hl:O.lt (dZ key p n) (dZ key p (n - 1))=false)(h1:1<=n):jl O key p (n+1):=by
 intro i j hij hj;by_cases e:j<n
 . exact h i j hij e
 .
  have:j=n:=by lia
  subst this;by_cases e2:i=j
  . subst e2;exact jF.le_refl _
  . exact jF.rB (h i (j - 1) ⋯ ⋯) hl
theorem xY:∀(f n:Nat),1<=n->jl O key p n->∃m,iz (nO O key) (kas_asc p f n)=m/\n<=m/\m<=n+f/\jl O key p m/\(m<n+f->O.lt (dZ key p m) (dZ key p (m - 1))=true)
 | 0,n,_,h=>⟨n,rfl,eD _,eD _,h,λz=>absurd z (mP _)⟩
 |f+1,n,h1,h=>by
  unfold kas_asc;show ∃m,iz (nO O key) (if nO O key (p.getD n 0) (p.getD (n - 1) 0)=true then KasT.ret n else kas_asc p f (n+1))=m/\_
  cases e:nO O key (p.getD n 0) (p.getD (n - 1) 0)with
  |true=>exact⟨n,rfl,eD _,by lia,h,λ_=>e⟩
  |false=>obtain⟨m,q1,q2,q3,q4,q5⟩:=xY f (n+1) ⋯ (h.ext e h1);exact⟨m,q1,by lia,by lia,q4,λz=>q5 ⋯⟩
theorem iF.ext(h:iF O key p n)(hl:O.le (dZ key p n) (dZ key p (n - 1)))(h1:1<=n):iF O key p (n+1):=by
 intro i j hij hj;by_cases e:j<n
 . exact h i j hij e
 .
  have:j=n:=by lia
  subst this;by_cases e2:i=j
  . subst e2;exact jF.le_refl _
  . exact jF.rB hl (h i (j - 1) ⋯ ⋯)
theorem iF.R0(h:iF O key p n)(hk:∀k,dZ key p' k=dZ key p k):iF O key p' n:=λi j a b=>by rw[hk,hk];exact h i j a b
def Xp(key:Nat->α)(p:Array Nat)(n q:Nat):Prop:=q+1<=n/\∀k,n - (q+1)<=k->k<n->dZ key p k=dZ key p (n - 1)
theorem zG(h:Xp key p n q)(hz:n<=p.size)(k:Nat):dZ key (kas_rev p (n - (q+1)) n) k=dZ key p k:=by
 rw[nP hz];split
 . rename_i hk;have hq:=h.1;rw[h.2 k hk.1 hk.2,h.2 (n - (q+1)+n - 1 - k) ⋯ ⋯]
 . rfl
theorem nQ:∀(f:Nat) (p:Array Nat) (n q:Nat),1<=n->n+f<=p.size->iF O key p n->Xp key p n q->
  ∃p' m q',iz (nO O key) (kas_desc f p n q)=(p',m,q')/\p'.Perm p/\n<=m/\m<=n+f/\iF O key p' m/\Xp key p' m q'
 | 0,p,n,q,_,_,h,hq=>⟨p,n,q,rfl,BU _,eD _,eD _,h,hq⟩
 |f+1,p,n,q,h1,hz,h,hq=>by
  unfold kas_desc;show ∃p' m q',iz (nO O key) (if nO O key (p.getD n 0) (p.getD (n - 1) 0)=true then (if q > 0 then kas_desc f (kas_rev p (n - (q+1)) n) (n+1) 0 else kas_desc f p (n+1) 0)
   else .ask (p.getD (n - 1) 0) (p.getD n 0) λd=>if d=true then .ret (p,n,q)else kas_desc f p (n+1) (q+1))=(p',m,q')/\_
  cases e:nO O key (p.getD n 0) (p.getD (n - 1) 0)with
  |true=>
   rw[fN rfl];have hl:O.le (dZ key p n) (dZ key p (n - 1)):=jF.le_of_lt e;have one:∀p':Array Nat,Xp key p' (n+1) 0:=λp'=>⟨by lia,λk a b=>by have:k=n:=⋯;subst this;rfl⟩
   by_cases hq0:q > 0
   .
    rw[fN hq0];have hk:=zG hq (by lia:n<=p.size)
    have hF:iF O key (kas_rev p (n - (q+1)) n) (n+1):=(h.ext hl h1).R0 hk;obtain⟨p',m,q',r1,r2,r3,r4,r5,r6⟩:=nQ f (kas_rev p (n - (q+1)) n) (n+1) 0 ⋯ (by rw[kas_rev_size];lia) hF (one _)
    exact⟨p',m,q',r1,r2.trans (mirror_perm _ _ _ _),by lia,by lia,r5,r6⟩
   . rw[hU hq0];obtain⟨p',m,q',r1,r2,r3,r4,r5,r6⟩:=nQ f p (n+1) 0 ⋯ ⋯ (h.ext hl h1) (one _);exact⟨p',m,q',r1,r2,by lia,by lia,r5,r6⟩
  |false=>
   rw[hU i8];show ∃p' m q',iz (nO O key) (if nO O key (p.getD (n - 1) 0) (p.getD n 0)=true then .ret (p,n,q)else kas_desc f p (n+1) (q+1))=(p',m,q')/\_
   cases e2:nO O key (p.getD (n - 1) 0) (p.getD n 0)with
   |true=>exact⟨p,n,q,rfl,BU _,eD _,by lia,h,hq⟩
   |false=>
    rw[hU i8];have he:dZ key p n=dZ key p (n - 1):=O.tot _ _ e e2;have hq':Xp key p (n+1) (q+1):=⟨by have:=hq.1;lia,λk a b=>by
     show dZ key p k=dZ key p n;by_cases hk:k=n
     . subst hk;rfl
     .
      rw[he];exact hq.2 k ⋯ ⋯⟩
    obtain⟨p',m,q',r1,r2,r3,r4,r5,r6⟩:=nQ f p (n+1) (q+1) ⋯ ⋯ (h.ext (by rw[he];exact jF.le_refl _) h1) hq'
    exact⟨p',m,q',r1,r2,by lia,by lia,r5,r6⟩
theorem Gd(h:iF O key p n)(hz:n<=p.size):jl O key (kas_rev p 0 n) n:=λi j a b=>by
 rw[nP hz,nP hz,fN ⟨by lia,by lia⟩,fN ⟨by lia,by lia⟩]
 exact h _ _ ⋯ ⋯
theorem vC(h1:1<=n)(hn:n<=nrem)(hz:nrem<=p.size)(h:iF O key p n):∃m p',iz (nO O key) (kas_tail3 n nrem p)=(m,p')/\p'.Perm p/\1<=m/\m<=nrem/\jl O key p' m:=by unfold kas_tail3;rw[fc];obtain⟨m,q1,q2,q3,q4,_⟩:=xY (O:=O) (key:=key) (p:=kas_rev p 0 n) (nrem - n) n h1 (Gd h ⋯);rw[q1];exact⟨m,_,rfl,mirror_perm _ _ _ _,by lia,by lia,q4⟩
theorem mH(h1:1<=n)(hn:n+1<=nrem)(hz:nrem<=p.size)(h:iF O key p (n+1)):∃m p',iz (nO O key) (kas_descPart n nrem p)=(m,p')/\p'.Perm p/\1<=m/\m<=nrem/\jl O key p' m:=by
 unfold kas_descPart;rw[fc];obtain⟨p',m,q',r1,r2,r3,r4,r5,r6⟩:=nQ (O:=O) (key:=key) (nrem - (n+1)) p (n+1) 0 ⋯ ⋯ h ⟨by lia,λk a b=>by have:k=n:=⋯;subst this;rfl⟩
 rw[r1];dsimp only;have hs:p'.size=p.size:=r2.size_eq;by_cases hq:q' > 0
 .
  rw[fN hq];have hk:=zG r6 (by lia:m<=p'.size)
  obtain⟨m',p2,s1,s2,s3,s4,s5⟩:=vC (nrem:=nrem) ⋯ ⋯ (by rw[kas_rev_size];lia) (r5.R0 hk)
  exact⟨m',p2,s1,(s2.trans (mirror_perm _ _ _ _)).trans r2,s3,s4,s5⟩
 . rw[hU hq];obtain⟨m',p2,s1,s2,s3,s4,s5⟩:=vC (nrem:=nrem) ⋯ ⋯ ⋯ r5;exact⟨m',p2,s1,s2.trans r2,s3,s4,s5⟩
theorem Ge(h1:1<=n)(hz:n<=p.size):∃m p',iz (nO O key) (kas_count n p)=(m,p')/\p'.Perm p/\1<=m/\m<=n/\jl O key p' m:=by
 unfold kas_count;rw[fc];obtain⟨m,q1,q2,q3,q4,q5⟩:=xY (O:=O) (key:=key) (p:=p) (n - 1) 1 (eD _) (λi j a b=>by have e1:i=0:=⋯;have e2:j=0:=⋯;subst e1;subst e2;exact jF.le_refl _)
 rw[q1];by_cases e1:(m==n)=true
 . rw[fN e1];exact⟨m,p,rfl,BU _,q2,by lia,q4⟩
 .
  rw[hU e1];have hm:m<n:=by
   have:m≠n:=λz=>e1 (by rw[z];exact CF _)
   lia
  have hlt:=q5 ⋯;by_cases e2:m > 1
  .
   rw[fN e2];show ∃m' p',iz (nO O key) (if nO O key (p.getD 0 0) (p.getD (m - 1) 0)=true then KasT.ret (m,p)else kas_descPart m n (kas_rev p 0 m))=(m',p')/\_
   cases e3:nO O key (p.getD 0 0) (p.getD (m - 1) 0)with
   |true=>exact⟨m,p,rfl,BU _,q2,by lia,q4⟩
   |false=>
    rw[hU i8];have Zz:∀k,k<m->dZ key p k=dZ key p (m - 1):=λk hk=>by
     refine jF.zF (O:=O) (q4 k (m - 1) ⋯ ⋯) ?_;exact jF.rB (show O.le (dZ key p (m - 1)) (dZ key p 0)from e3) (q4 0 k ⋯ hk)
    have hk:∀k,dZ key (kas_rev p 0 m) k=dZ key p k:=λk=>by
     rw[nP ⋯];split
     . rw[Zz _ ⋯,Zz k ⋯]
     . rfl
    have hF:iF O key (kas_rev p 0 m) (m+1):=by
     refine iF.R0 (p:=p) (iF.ext (λi j a b=>?_) (jF.le_of_lt hlt) ⋯) hk
     rw[Zz i ⋯,Zz j b];exact jF.le_refl _
    obtain⟨m',p2,s1,s2,s3,s4,s5⟩:=mH (O:=O) (key:=key) (p:=kas_rev p 0 m) q2 (by lia:m+1<=n) (by rw[kas_rev_size];exact hz) hF
    exact⟨m',p2,s1,s2.trans (mirror_perm _ _ _ _),s3,s4,s5⟩
  .
   rw[hU e2];have hF:iF O key p (m+1):=iF.ext (λi j a b=>by have e1:i=0:=⋯;have e2:j=0:=⋯;subst e1;subst e2;exact jF.le_refl _) (jF.le_of_lt hlt) q2
   exact mH q2 ⋯ hz hF
theorem pe(hR:jl O key p k):∀(f l r:Nat),l<=r->r<=k->r - l<=f->(∀i,i<l->O.le (dZ key p i) (dZ key p k))->(∀i,r<=i->i<k->O.lt (dZ key p k) (dZ key p i)=true)->
  ∃m,iz (nO O key) (kas_place p k f l r)=m/\m<=k/\(∀i,i<m->O.le (dZ key p i) (dZ key p k))/\∀i,m<=i->i<k->O.lt (dZ key p k) (dZ key p i)=true
 | 0,l,r,h1,h2,h3,h4,h5=>⟨l,rfl,by lia,h4,λi a b=>h5 i ⋯ b⟩
 |f+1,l,r,h1,h2,h3,h4,h5=>by
  unfold kas_place;by_cases e:l ≥ r
  . rw[fN e];exact⟨l,rfl,by lia,h4,λi a b=>h5 i ⋯ b⟩
  .
   rw[hU e];show ∃m,iz (nO O key) (if nO O key (p.getD k 0) (p.getD ((l+r) / 2) 0)=true then kas_place p k f l ((l+r) / 2)else kas_place p k f ((l+r) / 2+1) r)=m/\_
   cases e2:nO O key (p.getD k 0) (p.getD ((l+r) / 2) 0)with
   |true=>
    rw[fN rfl];refine pe hR f l ((l+r) / 2) ⋯ ⋯ ⋯ h4 λi a b=>?_
    by_cases hi:r<=i
    . exact h5 i hi b
    .
     have q:O.le (dZ key p ((l+r) / 2)) (dZ key p i):=hR _ _ a b;cases e3:O.lt (dZ key p k) (dZ key p i)with
     |true=>rfl
     |false=>
      have:=jF.rB q (show O.le (dZ key p i) (dZ key p k)from e3)
      have Ve:O.lt (dZ key p k) (dZ key p ((l+r) / 2))=true:=e2;unfold jF.le at this;rw[this]at Ve;cases Ve
   |false=>
    rw[hU i8];refine pe hR f ((l+r) / 2+1) r ⋯ h2 ⋯ (λi a=>?_) h5
    exact jF.rB (hR i ((l+r) / 2) ⋯ ⋯) e2
theorem Gf:∀(f:Nat) (p:Array Nat) (k:Nat),k+f<=p.size->jl O key p k->∃p',iz (nO O key) (kas_bin f p k)=p'/\p'.Perm p/\jl O key p' (k+f)
 | 0,p,k,_,h=>⟨p,rfl,BU _,h⟩
 |f+1,p,k,hz,h=>by
  unfold kas_bin;rw[fc];obtain⟨l,q1,q2,q3,q4⟩:=pe h k 0 k (wP _) (eD _) ⋯ (λi a=>absurd a (A6 _)) (λi a b=>absurd (Nat.lt_of_le_of_lt a b) (mP _))
  rw[q1];have hk:=λi=>Lh (key:=key) (p:=p) (src:=k) (d:=k - l) ⋯ ⋯ i
  have hR:jl O key (bubble p k (k - l)) (k+1):=λi j a b=>by
   rw[hk,hk];have e:k - (k - l)=l:=by lia
   rw[e];by_cases i1:i=l
   .
    rw[fN i1];by_cases j1:j=l
    . rw[fN j1];exact jF.le_refl _
    .
     rw[hU j1,fN ⟨by lia,by lia⟩]
     exact jF.le_of_lt (q4 (j - 1) ⋯ ⋯)
   .
    rw[hU i1];by_cases i2:l<i/\i<=k
    .
     rw[fN i2,hU ⋯,fN ⟨by lia,by lia⟩]
     exact h _ _ ⋯ ⋯
    .
     rw[hU i2];by_cases j1:j=l
     . rw[fN j1];exact q3 i ⋯
     .
      rw[hU j1];by_cases j2:l<j/\j<=k
      . rw[fN j2];exact h _ _ ⋯ ⋯
      . rw[hU j2];exact h _ _ a ⋯
  obtain⟨p',s1,s2,s3⟩:=Gf f (bubble p k (k - l)) (k+1) (by rw[bubble_size];lia) hR
  exact⟨p',s1,s2.trans (bubble_perm _ _ _),by rw[show k+(f+1)=k+1+f by lia];exact s3⟩
theorem Li(h1:1<=n):∃p,iz (nO O key) (kas_sort n)=p/\p.Perm (List.range n).toArray/\jl O key p n:=by
 unfold kas_sort;rw[fc];obtain⟨m,p,q1,q2,q3,q4,q5⟩:=Ge (O:=O) (key:=key) (p:=(List.range n).toArray) h1 ⋯;rw[q1];dsimp only;have hs:p.size=n:=by rw[q2.size_eq];simp
 have e:max m 1=m:=by lia
 rw[e];by_cases hm:m<n
 . rw[fN hm];obtain⟨p',s1,s2,s3⟩:=Gf (O:=O) (key:=key) (n - m) p m ⋯ q5;exact⟨p',s1,s2.trans q2,by rw[show m+(n - m)=n by lia]at s3;exact s3⟩
 .
  rw[hU hm];have:m=n:=by lia
  subst this;exact⟨p,rfl,q2,q5⟩
end
noncomputable def zH{α:Type}(n:Nat)(P:α->Prop):KasT α->Prop
 |.ret a=>P a
 |.ask i j k=>i<n/\j<n/\∀b,zH n P (k b)
theorem zH.bind{α β:Type}{n:Nat}{P:α->Prop}{Q:β->Prop}{f:α->KasT β}:∀{t:KasT α},zH n P t->(∀a,P a->zH n Q (f a))->zH n Q (t.bind f)
 |.ret a,h,hf=>hf a h
 |.ask _ _ _,h,hf=>⟨h.1,h.2.1,λb=>(h.2.2 b).bind hf⟩
theorem vD{α:Type}{n:Nat}{P:α->Prop}{lt:Nat->Nat->Bool}{cmp:Nat->Nat->(Bool->Shared->Prop)->Shared->Prop}{Q:α->Shared->Prop}{s:Shared}(hc:∀i j C,i<n->j<n->C (lt i j) s->cmp i j C s):∀t:KasT α,zH n P t->Q (iz lt t) s->t.kasWp cmp Q s
 |.ret _,_,h=>h
 |.ask i j k,ok,h=>hc i j _ ok.1 ok.2.1 (vD hc (k (lt i j)) (ok.2.2 _) h)
def pg(n:Nat)(p:Array Nat):Prop:=0<n/\∀x∈p.toList,x<n
theorem pg.at(h:pg n p)(i:Nat):p.getD i 0<n:=by
 rw[AA];cases e:p[i]? with
 |none=>exact h.1
 |some x=>exact h.2 x (by rw[Array.getElem?_eq_some_iff]at e;obtain⟨hi,rfl⟩:=e;simp)
theorem pg.perm(h:pg n p)(e:p'.Perm p):pg n p':=⟨h.1,λx hx=>h.2 x ((Bz.mp e).mem_iff.mp hx)⟩
theorem pg.rev(h:pg n p)(i j:Nat):pg n (kas_rev p i j):=h.perm (mirror_perm _ _ _ _)
theorem pg.bub(h:pg n p)(i j:Nat):pg n (bubble p i j):=h.perm (bubble_perm _ _ _)
section
theorem xZ(h:pg N p):∀f n,zH N (λ_=>True) (kas_asc p f n)
 | 0,_=>trivial
 |f+1,n=>⟨h.at _,h.at _,λb=>by cases b <;> first |exact trivial |exact xZ h f (n+1)⟩
theorem nR:∀f p n q,pg N p->zH N (λr=>pg N r.1) (kas_desc f p n q)
 | 0,_,_,_,h=>h
 |f+1,p,n,q,h=>by
  refine⟨h.at _,h.at _,λb=>?_⟩
  dsimp only;cases b with
  |true=>
   rw[fN rfl];by_cases hq:q > 0
   . rw[fN hq];exact nR f _ _ _ (h.rev _ _)
   . rw[hU hq];exact nR f _ _ _ h
  |false=>
   rw[hU i8];refine⟨h.at _,h.at _,λd=>?_⟩
   cases d with
   |true=>exact h
   |false=>exact nR f _ _ _ h
theorem vE{p:Array Nat}{n nrem:Nat}(h:pg N p):zH N (λr=>pg N r.2) (kas_tail3 n nrem p):=(xZ (h.rev 0 n) _ _).bind λ_ _=>h.rev 0 n
theorem mJ{p:Array Nat}{n nrem:Nat}(h:pg N p):zH N (λr=>pg N r.2) (kas_descPart n nrem p):=by
 refine (nR _ _ _ _ h).bind λr hr=>?_
 by_cases hq:r.2.2 > 0
 . rw[fN hq];exact vE (pg.rev hr _ _)
 . rw[hU hq];exact vE hr
theorem Gg{p:Array Nat}{n:Nat}(h:pg N p):zH N (λr=>pg N r.2) (kas_count n p):=by
 refine (xZ h _ _).bind λm _=>?_
 by_cases e1:(m==n)=true
 . rw[fN e1];exact h
 .
  rw[hU e1];by_cases e2:m > 1
  .
   rw[fN e2];refine⟨h.at _,h.at _,λb=>?_⟩
   cases b with
   |true=>exact h
   |false=>exact mJ (h.rev _ _)
  . rw[hU e2];exact mJ h
theorem pq(h:pg N p):∀f l r,zH N (λ_=>True) (kas_place p k f l r)
 | 0,_,_=>trivial
 |f+1,l,r=>by
  unfold kas_place;by_cases e:l ≥ r
  . rw[fN e];exact trivial
  .
   rw[hU e];refine⟨h.at _,h.at _,λb=>?_⟩
   cases b with
   |true=>exact pq h f _ _
   |false=>exact pq h f _ _
theorem Gh:∀f p k,pg N p->zH N (λ_=>True) (kas_bin f p k)
 | 0,_,_,_=>trivial
 |f+1,p,k,h=>(pq h _ _ _).bind λl _=>Gh f _ _ (h.bub _ _)
theorem Lj{n:Nat}(h:0<n):zH n (λ_=>True) (kas_sort n):=by
 refine (Gg (p:=(List.range n).toArray) ⟨h,λx hx=>by simpa using hx⟩).bind λr hr=>?_
 by_cases e:r.1<n
 . rw[fN e];exact Gh _ _ _ hr
 . rw[hU e];exact trivial
end
open L2 PySem.W
section
variable{α:Type}{key:Nat->α}
noncomputable def dQ(s:Shared)(a:Addr)(vs:List Value):Shared:={ s with heap:=((s.heap.update a (Obj.mapSeq λ_=>#[])).push (seqObj "tuple" vs.toArray 0)).push (seqObj "list" #[] 0)}
theorem vF(hb:b≠a)(h:s.heap.get? b=some o):(dQ s a vs).heap.get? b=some o:=
 b0 _ (b0 _ ((lS s.heap _ hb.symm).trans h))
theorem Gi(ho:s.heap.get? a=some (seqObj "list" vs.toArray n))(h2:2<=vs.length)(h64:vs.length<64)
  (hk:∀Q:SortKind->Shared->Prop,Q κ (dQ s a vs)->wpAny (model prog w) A (keyKind' vs.toArray) Q (λ_ _=>False) (dQ s a vs))
  (hc:∀i j C,i<vs.length->j<vs.length->C (nO O key i j) (dQ s a vs)->kas_ask prog w A κ vs i j C (dQ s a vs))
  (h:∀p:Array Nat,p.Perm (List.range vs.length).toArray->jl O key p vs.length->P (.done (.ret .none)) { s with heap:=sortedHeap s.heap a vs (p.toList.map λi=>vs.getD i Value.none).toArray}) :
  wpAny (model prog w) A (Builtin.«list.sort» ⟨[.ref a],[]⟩) P E s:=by
 obtain⟨e1,Xq⟩:∃e1,(s.heap.update a (Obj.mapSeq λ_=>#[])).get? a=some (seqObj "list" #[] e1):=⟨_,get?_update_seq ho (λ_=>#[])⟩
 have Xr:(dQ s a vs).heap.get? a=some (seqObj "list" #[] e1):=b0 _ (b0 _ Xq);have hz:vs.length<=sizeLine:=(by rw[nS];lia)
 rw[list_sort_plain];refine aS (listItems_at ho rfl (aS (listUpdate_at ho rfl (aS (seqEpoch_at Xq rfl (aS (wpAny_newTuple (aS (BS (lL ?_) (wP _))) (by show vs.length<=_;exact hz))))) (by simpa using hz) (wP _))))
 show wpAny (model prog w) A _ P E (dQ s a vs);have hn : ¬ vs.toArray.size<2:=by rw[dC];lia
 dsimp only;rw[hU hn,hU hn];refine aS (nE (hk (λk s0=>k=κ/\s0=dQ s a vs) ⟨rfl,rfl⟩) ?_ λ_ _ z=>z.elim)
 rintro _ _ ⟨rfl,rfl⟩;obtain⟨p0,q1,q2,q3⟩:=Li (O:=O) (key:=key) (n:=vs.length) ⋯;refine aS (nE (kat_run (ks:=vs) (vs:=vs) (E:=E) (Q:=λst' s'=>s'=dQ s a vs/\failedOf st'=none/\(arrOf st').map (·.2)=(p0.toList.map λi=>vs.getD i Value.none).toArray) (G:=λp s'=>s'=dQ s a vs/\p=p0)
  rfl h2 h64 (λp st' s' _ har hf hg=>?_) (vD hc _ (Lj ⋯) ⟨rfl,q1⟩)) ?_ λ_ _ z=>z)
 . obtain⟨rfl,rfl⟩:=hg;exact⟨rfl,hf,kat_snds rfl har⟩
 .
  rintro⟨⟨⟩,st'⟩ s' ⟨rfl,hf,hout⟩;dsimp only at hf hout ⊢
  have aL:(p0.toList.map λi=>vs.getD i Value.none).length=vs.length:=by rw[eA,oD,q2.size_eq];simp
  rw[hout];refine aS (seqEpoch_at Xr rfl (aS (listUpdate_at Xr rfl ?_ (wP _) (by show (List.toArray _).size<=_;rw[dC,aL];lia))))
  rw[hf];simp only[bne_self_eq_false,AV,C9];exact d5 (h p0 q2 q3)
theorem zI{β:Type}:∀l:List β,(l.zip l).map (·.2)=l
 | []=>rfl
 |x::l=>by rw[AF,List.map_cons,zI l]
theorem Gj(ho:s.heap.get? a=some (seqObj "list" vs.toArray n))(h2:vs.length<2)
  (h:P (.done (.ret .none)) { s with heap:=sortedHeap s.heap a vs vs.toArray}):wpAny (model prog w) A (Builtin.«list.sort» ⟨[.ref a],[]⟩) P E s:=by
 obtain⟨e1,Xq⟩:∃e1,(s.heap.update a (Obj.mapSeq λ_=>#[])).get? a=some (seqObj "list" #[] e1):=⟨_,get?_update_seq ho (λ_=>#[])⟩
 have Xr:(dQ s a vs).heap.get? a=some (seqObj "list" #[] e1):=b0 _ (b0 _ Xq);have hz:vs.length<=sizeLine:=(by rw[nS];lia)
 rw[list_sort_plain];refine aS (listItems_at ho rfl (aS (listUpdate_at ho rfl (aS (seqEpoch_at Xq rfl (aS (wpAny_newTuple (aS (BS (lL ?_) (wP _))) (by show vs.length<=_;exact hz))))) (by simpa using hz) (wP _))))
 show wpAny (model prog w) A _ P E (dQ s a vs);have hn:vs.toArray.size<2:=by rw[dC];lia
 dsimp only;rw[fN hn,fN hn];refine aS (d5 ?_);rw[StateT.run_pure];refine aS (d5 ?_);dsimp only;have hout:(arrOf (SortSt.mk' general' (vs.toArray.zip vs.toArray) #[] 7 none)).map (·.2)=vs.toArray:=by show (vs.toArray.zip vs.toArray).map (·.2)=vs.toArray;apply Array.toList_inj.mp;simp only[Array.toList_map,Array.toList_zip,List.toList_toArray];exact zI vs
 rw[hout];refine aS (seqEpoch_at Xr rfl (aS (listUpdate_at Xr rfl ?_ (wP _) (by show vs.toArray.size<=_;rw[dC];lia))))
 show wpAny _ _ (if (e1 != e1)=true then _ else _) _ _ _
 rw[hU ⋯];exact d5 h
noncomputable def Gk(h:Heap)(vs:List Value):Heap:=((h.push (seqObj "list" #[] 0)).update h.objs.size (Obj.mapSeq (· ++ vs.toArray))).push (seqObj "list" vs.toArray 0)
theorem rC(h:Heap)(vs:List Value):((h.push (seqObj "list" #[] 0)).update h.objs.size (Obj.mapSeq (· ++ vs.toArray))).objs.size=h.objs.size+1:=(BC ..).trans (size_push' ..)
theorem tM(h:Heap)(vs:List Value):(Gk h vs).get? (h.objs.size+1)=some (seqObj "list" vs.toArray 0):=by have:=eJ ((h.push (seqObj "list" #[] 0)).update h.objs.size (Obj.mapSeq (· ++ vs.toArray))) (o:=seqObj "list" vs.toArray 0) rfl;rw[rC]at this;exact this
theorem vG(e:h.get? b=some o):(Gk h vs).get? b=some o/\b≠h.objs.size+1:=by have hb:b<h.objs.size:=eR e;refine⟨b0 _ ?_,l4 (y6 hb)⟩;rw[lS _ _ (Cn hb)];exact b0 _ e
theorem BX(hl:s.heap.IsList l vs.toArray\/IsTup s.heap l vs.toArray)(hz:vs.length<=sizeLine)
  (h:wpAny (model prog w) A.in1.in1 (Builtin.«list.sort» ⟨[.ref (s⁻¹+1)],[]⟩) (λf s'=>f=.done (.ret .none)/\Q (.ref (s⁻¹+1)) s') E { s with heap:=Gk s.heap vs}) :
  wpAny (model prog w) A (call (.builtin "sorted") [.ref l]) Q E s:=by
 refine Calls.call_function_entry kind_sorted plain_sorted entry_sorted (args_sorted1 _) ?_;unfold Builtin.«sorted»;have go:wpAny (model prog w) A.in1 (collect (.ref l)) (λvs' s'=>vs'=vs/\s'={ s with heap:=(s.heap.push (seqObj "list" #[] 0)).update s⁻¹ (Obj.mapSeq (· ++ vs.toArray))}) E s:=by
  rcases hl with hl |hl
  . exact collect_list hl ⟨rfl,rfl⟩ hz
  . exact gq hl ⟨rfl,rfl⟩ hz
 refine aS (m:=checkCount "sorted" 1 1 _) (d5 (aS (nE go ?_ λ_ _ z=>z)))
 rintro _ _ ⟨rfl,rfl⟩;refine aS (BS ?_ hz);show wpAny _ _ _ _ _ { s with heap:=Gk s.heap _};rw[rC];refine aS (lL (vS slot_list_sort ⟨_,tM _ _,rfl⟩ entry_list_sort (nE h (λf s' hf=>⟨_,hf.1,?_⟩) λ_ _ z=>z) (args_list_sort _)))
 exact d5 ⟨_,rfl,hf.2⟩
end
theorem lD:∀a:List Int,HT.lexLt a a=false
 | []=>rfl
 |x::a=>by rw[HT.dN,fN rfl,lD a]
theorem vH:∀a b c:List Int,HT.lexLt a b=true->HT.lexLt b c=true->HT.lexLt a c=true
 | [],[],_,h,_=>by symm
 |_::_,[],_,h,_=>by symm
 |_,_::_,[],_,h=>by symm
 | [],_::_,_::_,_,_=>rfl
 |x::a,y::b,z::c,h1,h2=>by
  rw[HT.dN]at h1 h2 ⊢
  by_cases e1:x=y
  .
   rw[fN e1]at h1;subst e1;by_cases e2:x=z
   .
    rw[fN e2]at h2 ⊢
    exact vH a b c h1 h2
   .
    rw[hU e2]at h2 ⊢
    exact h2
  .
   rw[hU e1]at h1;have Vg:=l9 h1;by_cases e2:y=z
   . rw[fN e2]at h2;subst e2;rw[hU e1];exact h1
   . rw[hU e2]at h2;have h2':=l9 h2;rw[hU ⋯];exact l7 ⋯
theorem lE:∀a b:List Int,HT.lexLt a b=false->HT.lexLt b a=false->a=b
 | [],[],_,_=>rfl
 | [],_::_,h,_=>by symm
 |_::_,[],_,h=>by symm
 |x::a,y::b,h1,h2=>by
  rw[HT.dN]at h1 h2;by_cases e:x=y
  . subst e;rw[fN rfl]at h1 h2;rw[lE a b h1 h2]
  .
   rw[hU e]at h1;rw[hU (λz=>e z.symm)]at h2
   have:=AW h1;have:=AW h2;lia
def dR:jF (~~~0):=⟨HT.lexLt,lD,vH,lE⟩
section
variable{α:Type}(O:jF α)
noncomputable def BZ(a:α):List α->List α
 | []=>[a]
 |b::l=>if O.lt b a then b::BZ a l else a::b::l
def cS:List α->List α
 | []=>[]
 |a::l=>BZ O a (cS l)
variable{O}
theorem lF(a:α):∀l:List α,(BZ O a l).Perm (a::l)
 | []=>y0 _
 |b::l=>by
  unfold BZ;split
  . exact ((lF a l).cons b).trans (List.Perm.swap a b l)
  . exact y0 _
theorem bV:∀l:List α,(cS O l).Perm l
 | []=>y0 _
 |a::l=>(lF a _).trans ((bV l).cons a)
theorem mK(a:α):∀{l:List α},l.Pairwise O.le->(BZ O a l).Pairwise O.le
 | [],_=>List.pairwise_singleton _ _
 |b::l,h=>by
  obtain⟨h1,h2⟩:=AG.mp h;unfold BZ;cases e:O.lt b a with
  |true=>
   rw[fN rfl];refine AG.mpr ⟨λx hx=>?_,mK a h2⟩
   rcases d6.mp ((lF a l).mem_iff.mp hx)with rfl |hx
   . exact jF.le_of_lt e
   . exact h1 x hx
  |false=>
   rw[hU i8];refine AG.mpr ⟨λx hx=>?_,h⟩
   rcases d6.mp hx with rfl |hx
   . exact e
   . exact jF.rB (show O.le a b from e) (h1 x hx)
theorem g6:∀l:List α,(cS O l).Pairwise O.le
 | []=>List.Pairwise.nil
 |a::l=>mK a (g6 l)
theorem jG(hp:m.Perm l)(hs:m.Pairwise O.le):m=cS O l:=
 (hp.trans (bV l).symm).eq_of_pairwise (λx y _ _ h1 h2=>jF.zF h1 h2) hs (g6 l)
theorem fF{β:Type}(ks:List β)(d:β):(List.range ks.length).map (λi=>ks.getD i d)=ks:=by
 refine List.ext_getElem ⋯ λi h1 h2=>?_
 simp[mB h2]
theorem vI(hp:p.Perm (List.range ks.length).toArray)(hr:jl O (λi=>ks.getD i d) p ks.length):p.toList.map (λi=>ks.getD i d)=cS O ks:=by
 have hl:=Bz.mp hp;refine jG ((hl.map _).trans (by rw[List.toList_toArray,fF])) ?_
 rw[List.pairwise_iff_getElem];intro i j hi hj hij;have hs:p.size=ks.length:=by rw[hp.size_eq];simp
 rw[eA,oD]at hi hj;have:=hr i j (Nat.le_of_lt hij) ⋯;unfold dZ at this;have e1:p.getD i 0=p[i]:=by simp[Array.getD,hi]
 have e2:p.getD j 0=p[j]:=by simp[Array.getD,hj]
 rw[e1,e2]at this;simpa using this
end
open L2 PySem.W
section
theorem Gm(hv:IntsAre vs ns):∀{ws:List Value}{ms: ~~~0} (i:Nat),IntsAre ws ms->fin=decide (ns.length<ms.length)->Q (HT.lexLt ns ms) s->KatLex prog w A true fin Q (vs.zip ws) i s:=by
 induction hv with
 |nil=>
  intro ws ms i hu hf h;rw[List.zip_nil_left];refine kat_nil ?_;rw[hf];cases hu with
  |nil=>exact h
  |cons _=>exact h
 |@cons n t vs ns hv ih=>
  intro ws ms i hu hf h;cases hu with
  |nil=>rw[List.zip_nil_right];refine kat_nil ?_;rw[hf];exact h
  |@cons m t' us ms hu=>
   rw[AF];refine kat_cons (wpAny_eqBool_int (kat_go (λe=>?_) (λe=>?_)))
   .
    have e':n=m:=eq_of_beq e;refine kat_yes (ih (i+1) hu (by rw[hf];simp) ?_)
    rw[HT.dN,fN e']at h;exact h
   .
    have e':n≠m:=λq=>by rw[q]at e;simp at e
    rw[HT.dN,hU e']at h;refine kat_no ?_;cases i with
    |zero=>exact oneLt_int h
    |succ i=>exact kat_one _ _ (lt_int h)
def Gn(h:Heap)(v:Value)(ns: ~~~0):Prop:=∃a aj,v=.ref a/\IsTup h a aj/\IntsAre aj.toList ns
theorem Gn.keep(x:Gn h v ns)(k:∀b o,h.get? b=some o->h'.get? b=some o):Gn h' v ns:=let ⟨a,its,e,t,i⟩:=x;⟨a,its,e,t.keeps k,i⟩
inductive TupIs(h:Heap):List Value->List (~~~0)->Prop
 |nil:TupIs h [] []
 |cons {v:Value}{ns: ~~~0}{vs:List Value}{d8: ~~~5}:Gn h v ns->TupIs h vs d8->TupIs h (v::vs) (ns::d8)
theorem TupIs.keep(k:∀b o,h.get? b=some o->h'.get? b=some o)(t:TupIs h vs d8):TupIs h' vs d8:=by
 induction t with
 |nil=>exact .nil
 |cons a b ih=>exact .cons (a.keep k) ih
theorem TupIs.length(t:TupIs h vs d8):vs.length=d8.length:=by
 induction t with
 |nil=>rfl
 |cons a b ih=>exact congrArg (· + 1) ih
theorem TupIs.at(t:TupIs h vs d8)(hi:i<vs.length):Gn h (vs.getD i .none) (d8.getD i []):=by
 induction t generalizing i with
 |nil=>exact absurd hi (A6 _)
 |cons a b ih=>cases i with
  |zero=>exact a
  |succ i=>exact ih (AT hi)
theorem TupIs.firsts(t:TupIs h vs d8)(g7:∀ns∈d8,ns≠[]):∃fs:List Value,KatTups h vs fs/\fs.length=vs.length/\∀v∈fs,∃i t,v=.int i t:=by
 induction t with
 |nil=>exact⟨[],.nil,rfl,λ_ z=>nomatch z⟩
 |@cons v ns vs d8 a b ih=>
  obtain⟨fs,q1,q2,q3⟩:=ih λns hn=>g7 ns (bP _ hn)
  obtain⟨a,aj,e,⟨o,e1,e2,n,e3⟩,hi⟩:=a;subst e;obtain⟨aj⟩:=aj;cases aj with
  |nil=>
   cases ns with
   |nil=>exact absurd rfl (g7 [] c8)
   |cons _ _=>cases hi
  |cons v aj=>
   cases ns with
   |nil=>cases hi
   |cons m ns=>cases hi;exact⟨_::fs,KatTups.cons e1 e2 e3 rfl q1,by rw[i5,i5,q2],λv hv=>(d6.mp hv).elim (λz=>⟨_,_,z⟩) (q3 v)⟩
theorem Ca:Looks M h (typeOf (.int i t)) (.type "int"):=.now
theorem vJ(hl:s.heap.IsList l vs.toArray\/IsTup s.heap l vs.toArray)(ht:TupIs s.heap vs d8)(g7:∀ns∈d8,ns≠[])(h64:vs.length<64)
  (h:∀p:List Nat,p.Perm (List.range vs.length)->p.map (λi=>d8.getD i [])=cS dR d8->Q (.ref (s⁻¹+1)) { s with heap:=sortedAll s.heap vs (p.map λi=>vs.getD i Value.none).toArray}) :
  wpAny (model prog w) A (call (.builtin "sorted") [.ref l]) Q E s:=by
 have hz:vs.length<=sizeLine:=by rw[nS];lia
 refine BX hl hz ?_;have aL:=ht.length;by_cases h2:vs.length<2
 .
  refine Gj (tM _ _) h2 ⟨rfl,?_⟩;have:=h (List.range vs.length) (y0 _) (by
   rw[aL,fF]
   match d8,aL with
   | [],_=>rfl
   | [x],_=>rfl
   |_::_::_,hl2=>rw[hl2,i5,i5]at h2;lia)
  rw[fF]at this;exact this
 .
  have keep:∀b o,s.heap.get? b=some o->(dQ { s with heap:=Gk s.heap vs} (s⁻¹+1) vs).heap.get? b=some o:=λb o e=>vF (vG (vs:=vs) e).2 (vG e).1
  have ht':=ht.keep keep;refine Gi (κ:=tuples' true) (O:=dR) (key:=λi=>d8.getD i []) (tM _ _) ⋯ h64 (λQ' hq=>?_) (λi j C hi hj hC=>?_) λp hp hr=>⟨rfl,?_⟩
  . obtain⟨fs,q1,q2,q3⟩:=ht'.firsts g7;exact kat_kind (T:=.type "int") q1 ⋯ (λv hv=>by obtain⟨i,t,rfl⟩:=q3 v hv;exact Ca) ⋯ hq
  . obtain⟨a,its,e,⟨o,e1,e2,n,e3⟩,q⟩:=ht'.at hi;obtain⟨b,g8,e',⟨o2,e4,e5,n2,e6⟩,q'⟩:=ht'.at hj;show wpAny _ _ (keyLt' (tuples' true) (vs.getD i Value.none) (vs.getD j Value.none)) C _ _;rw[e,e'];refine kat_lt e1 e3 e4 e6 (Gm q 0 q' ?_ hC);rw[<- q.length,<- q'.length];simp
  . rw[aL]at hp hr;exact h p.toList (by rw[aL];exact (Bz.mp hp).trans ⋯) (vI hp hr)
end
section
def g9:List D->Option (~~~5)
 | []=>some []
 |.tup l::ds=>match aR l,g9 ds with |some (n::ns),some d8=>some ((n::ns)::d8) |_,_=>none
 |_::_=>none
inductive jq(K:Frag)(H:Hp):List V->List (~~~0)->Prop
 |nil:jq K H [] []
 |cons {a:Addr}{ns: ~~~0}{vs:List V}{d8: ~~~5}:fV K H a (ns.map V.int)->jq K H vs d8->jq K H (.ref a::vs) (ns::d8)
theorem jq.real(I:L2.Inv X L Y H s)(t:jq X.K H xs d8):∀{its:List Value},Vals xs its->TupIs s.heap its d8:=by
 induction t with
 |nil=>intro its r;cases r;exact .nil
 |cons q _ ih=>
  intro its r;cases r with
  |cons r rs=>cases r;obtain⟨g8,r2,p,_⟩:=I.tuple q;exact .cons ⟨_,_,rfl,p,by simpa using intsAre_of r2⟩ (ih rs)
theorem rD(h:Vals xs us):∀{i:Nat},i<xs.length->RelV (xs.getD i .non) (us.getD i .none):=by
 induction h with
 |nil=>intro i hi;exact absurd hi (A6 _)
 |cons r _ ih=>
  intro i hi;cases i with
  |zero=>exact r
  |succ i=>exact ih (by simpa using hi)
theorem rE(h:Vals xs us):∀{p:List Nat},(∀i∈p,i<xs.length)->Vals (p.map λi=>xs.getD i .non) (p.map λi=>us.getD i .none)
 | [],_=>.nil
 |i::p,hp=>.cons (rD h (hp i c8)) (rE h λj hj=>hp j (bP _ hj))
theorem tN:fz X (.builtin "sorted") (λxs H Q=>∃p ys d8,xs=[.ref p]/\(cB X.K H p ys\/fV X.K H p ys)/\jq X.K H ys d8/\(∀ns∈d8,ns≠[])/\ys.length<64/\
  ∀q (o:List Nat),H q=none->(∀i∈o,i<ys.length)->o.map (λi=>d8.getD i [])=cS dR d8->Q (.ref q) (upd H q (.lst (o.map λi=>ys.getD i .non)))):=by
 intro L s Y H xs us Q I r h;obtain⟨p,ys,d8,rfl,hq,ht,g7,hl,q⟩:=h;obtain⟨u,rfl,rx⟩:=vals1 r;cases rx;have fin:∀its:List Value,Vals ys its->(s.heap.IsList p its.toArray\/IsTup s.heap p its.toArray)->wpAny (~~~2) X.A (call (.builtin "sorted") [.ref p]) (EP X L Y Q) X.xe s:=λits r' pl=>by
  have aL:=r'.length;refine vJ pl (ht.real I r') g7 ⋯ λo ho hs=>?_
  obtain⟨ep,he⟩:=sortedAll_at s.heap its (o.map λi=>its.getD i Value.none).toArray
  have hin:∀i∈o,i<ys.length:=λi hi=>by rw[aL];exact mI.mp (ho.mem_iff.mp hi)
  have ZC:o.length=ys.length:=by rw[ho.length_eq,An,aL]
  refine⟨.ref (s⁻¹+1),_,I.laid (t':=s.toks) (o:=.lst (o.map λi=>ys.getD i .non)) (λb ob e=>sortedAll_old e) (AO _) ?_,rfl,q _ o (I.hok.fresh (AO _)) hin hs⟩
  refine⟨by rw[eA,nS];lia,_,ep,rE r' hin,he⟩
 rcases hq with hq |hq
 . obtain⟨its,r',pl,hz⟩:=I.list hq;exact fin its r' (.inl pl.isList)
 . obtain⟨its,r',pl,hz⟩:=I.tuple hq;exact fin its r' (.inr pl)
theorem Lk(e:aR l=some ns):l=ns.map .int:=by
 induction l generalizing ns with
 |nil=>cases e;rfl
 |cons d l ih=>cases d with
  |int i=>
   have e:(match aR l with |some ns=>some (i::ns) |none=>none)=some ns:=e
   cases e2:aR l with
   |none=>rw[e2]at e;cases e
   |some ms=>rw[e2]at e;cases e;rw[List.map_cons,<- ih e2]
  |_=>cases e
theorem rF{K:Frag}{M:List Addr}{H:Hp}{l:List D}{xs:List V}{d8: ~~~5}(q:aI K M H l xs)(e:g9 l=some d8):jq K H xs d8/\(∀ns∈d8,ns≠[])/\l=d8.map λns=>.tup (ns.map .int):=by
 induction l generalizing xs d8 with
 |nil=>cases q;cases e;exact⟨.nil,λ_ z=>(nomatch z),rfl⟩
 |cons d l ih=>cases q with |cons r q=>cases d with
  |tup m=>
   unfold g9 at e;split at e
   .
    rename_i n ns d8 e1 e2;cases e;obtain⟨t1,t2,t3⟩:=ih q e2;cases r with
    |tup ha rr=>
     have:=aU rr e1;subst this;refine⟨.cons ha.sq t1,λx hx=>(d6.mp hx).elim (λz=>by rw[z];exact List.cons_ne_nil _ _) (t2 x),?_⟩
     rw[List.map_cons,<- t3,Lk e1]
   . cases e
  |_=>cases e
theorem aI.pick{K:Frag}{M:List Addr}{H:Hp}{ds:List D}{vs:List V}(h:aI K M H ds vs):∀{o:List Nat},(∀i∈o,i<vs.length)->aI K M H (o.map λi=>ds.getD i .non) (o.map λi=>vs.getD i .non)
 | [],_=>.nil
 |i::o,ho=>by
  refine .cons ?_ (h.pick λj hj=>ho j (bP _ hj))
  have hi:=ho i c8;have hd:i<ds.length:=by rw[h.length];exact hi
  obtain⟨v,e1,e2⟩:=h.get (i:=i) (d:=ds[i]) (by simp[hd])
  have q1:ds.getD i .non=ds[i]:=by simp[hd]
  have q2:vs.getD i .non=v:=by rw[gN,e1];rfl
  show Rep K M H (ds.getD i .non) (vs.getD i .non);rw[q1,q2];exact e2
theorem yc{d:D}{l:List D}{d8: ~~~5}(hK:z.K=X.K)(h:bx d=some l)(hi:g9 l=some d8)(hl:d8.length<64):CallD X z (.builtin "sorted") [d] (.new ((cS dR d8).map λns=>.tup (ns.map .int))):=by
 refine⟨_,tN,λg Y As M H vs Q s p k=>?_⟩
 obtain⟨v,rfl,pv⟩:=p.one;have main:∀(a:Addr) (xs:List V),aI z.K M H l xs->(cB X.K H a xs\/fV X.K H a xs)->∃p ys d8,[V.ref a]=[.ref p]/\(cB X.K H p ys\/fV X.K H p ys)/\jq X.K H ys d8/\(∀ns∈d8,ns≠[])/\ys.length<64/\
   ∀q (o:List Nat),H q=none->(∀i∈o,i<ys.length)->o.map (λi=>d8.getD i [])=cS dR d8->Q (.ref q) (upd H q (.lst (o.map λi=>ys.getD i .non))):=λa xs rr hq=>by
  obtain⟨t1,t2,t3⟩:=rF rr hi;have aL:xs.length=d8.length:=by rw[<- rr.length,t3,eA]
  refine⟨a,xs,d8,rfl,hq,hK▸t1,t2,by lia,λq o hf hin hs=>?_⟩
  have e:((cS dR d8).map λns=>D.tup (ns.map .int))=o.map λi=>l.getD i .non:=by
   rw[<- hs,List.map_map];refine mN λi hi=>?_
   have:i<d8.length:=by rw[<- aL];exact hin i hi
   rw[t3];simp[this]
  have rr':=(rr.pick hin).stay (az.aV (o:=.lst (o.map λi=>xs.getD i .non)) hf)
  refine k _ _ As (q::M) (s.aV hf) (az.aV hf) ⟨q,_,rfl,c8,λhA=>s.fresh hf (s.sub q hA),s.cH hf,aG,?_⟩
  rw[e];exact rr'
 cases d with
 |lst m=>symm;obtain⟨a,xs,rfl,e1,e2⟩:=pv.list;exact main a xs e2 (.inl (cB.of e1))
 |tup m=>symm;obtain⟨a,xs,rfl,e1,e2⟩:=pv.tup;exact main a xs e2 (.inr (hK▸e1.sq))
 |fix m=>symm;obtain⟨a,xs,rfl,e1,e2⟩:=pv.fix;exact main a xs e2 (.inl (hK▸e1.sq))
 |_=>symm
end
open L2 PySem.W
noncomputable def iG(n:Int): ~~~0->Int
 | []=>n
 |m::l=>iG (if m<n then m else n) l
theorem zJ:∀(l: ~~~0) (n:Int),iG n l<=n/\(∀x∈l,iG n l<=x)/\(iG n l=n\/iG n l∈l)
 | [],n=>⟨Int.le_refl _,λ_ z=>(nomatch z),.inl rfl⟩
 |m::l,n=>by
  obtain⟨h1,h2,h3⟩:=zJ l (if m<n then m else n)
  unfold iG;refine⟨?_,λx hx=>?_,?_⟩
  . split at h1 <;> split <;> lia
  .
   rcases d6.mp hx with rfl |hx
   . split at h1 <;> split <;> lia
   . exact h2 x hx
  .
   rcases h3 with h3 |h3
   .
    by_cases hm:m<n
    . rw[fN hm]at h3 ⊢;exact .inr (by rw[h3];exact c8)
    . rw[hU hm]at h3 ⊢;exact .inl h3
   . exact .inr (bP _ h3)
theorem Gp(n:Int)(l: ~~~0):(n::l).getD (argBest (λi j=>decide ((n::l).getD i 0<(n::l).getD j 0)) l.length) 0=iG n l:=by
 obtain⟨h1,h2⟩:=argBest_lt (λi=>(n::l).getD i 0) l.length
 obtain⟨m1,m2,m3⟩:=zJ l n;generalize argBest (λi j=>decide ((n::l).getD i 0<(n::l).getD j 0)) l.length=k at h1 h2 ⊢
 have hmem:(n::l).getD k 0∈n::l:=by
  have:k<(n::l).length:=by rw[i5];lia
  rw[gN,mB this];exact CH _
 have a:iG n l<=(n::l).getD k 0:=by
  rcases d6.mp hmem with e |e
  . rw[e];exact m1
  . exact m2 _ e
 have b:(n::l).getD k 0<=iG n l:=by
  have:iG n l∈n::l:=m3.elim (λe=>by rw[e];exact c8) (bP _)
  obtain⟨j,hj,e⟩:=C6 this;have q:=h2 j (by rw[i5]at hj;lia)
  rw[show (n::l).getD j 0=iG n l by rw[gN,mB hj];exact e]at q
  exact q
 lia
section
variable{X:Cx}{z:Z}
theorem rG{h h':Heap}{o:Obj}(hk:∀b ob,b∉[h.objs.size]->(h.push o).get? b=some ob->h'.get? b=some ob):∀b ob,h.get? b=some ob->h'.get? b=some ob:=λb ob e=>
 hk b ob (λhm=>by
  have:b=h.objs.size:=by simpa using hm
  exact absurd (eR e) (by rw[this];exact mP _)) (b0 _ e)
theorem Cb(hc:X.calm=true):fz X (.builtin "min") (λxs H Q=>∃(p:Addr) (n:Int) (l: ~~~0),xs=[.ref p]/\(cB X.K H p ((n::l).map V.int)\/fV X.K H p ((n::l).map V.int))/\Q (.int (iG n l)) H):=by
 intro L s Y H xs us Q I r h;obtain⟨p,n,l,rfl,hp,q⟩:=h;obtain⟨u,rfl,rx⟩:=vals1 r;cases rx;have hh:X.A.in1.handled=none:=I.ok.hd hc;have fin:∀(its:List Value) (v:Value) (h':Heap) (tk:Nat),Vals ((n::l).map V.int) its->its[argBest (λi j=>decide ((n::l).getD i 0<(n::l).getD j 0)) (its.length - 1)]?=some v->(∀b o,s.heap.get? b=some o->h'.get? b=some o)->EP X L Y Q v { s with heap:=h',toks:=tk}:=by
  intro its v h' tk rv hv hk;have aL:its.length=l.length+1:=by rw[<- rv.length,eA,i5]
  rw[aL,Nat.add_sub_cancel]at hv;obtain⟨t,rfl⟩:=j8 rv hv;exact⟨.int (iG n l),H,I.kept hk,⟨t,by rw[Gp]⟩,q⟩
 rcases hp with hp |hp
 .
  obtain⟨its,rv,pl,hz⟩:=I.list hp;have hlt:p<s⁻¹:=by obtain⟨_,e,_⟩:=pl.isList;exact eR e
  refine call_min_walk (AK pl.isList ?_);refine⟨s⁻¹,_,_,_,_,_,_,rfl,Walks.list (A:=X.A.in1) hh s⁻¹ p (l4 hlt) its.toArray,⟨⟨_,eJ _ rfl,rfl,rfl⟩,pl.isList.push _⟩,λb hb=>?_,by rw[dC,<- rv.length,eA];exact Nat.succ_pos _,CmpOf.ints_lt (λi=>(n::l).getD i 0) (λi v hv=>j8 rv (by simpa using hv)),λv h' tk hP hk=>fin its v h' tk rv (by simpa using hP) (rG hk)⟩
  simp only[d6,kS,yB]at hb;rcases hb with rfl |rfl
  . exact t9 (mE _) (mM _ _).symm
  . exact t9 (y6 hlt) (mM _ _).symm
 .
  obtain⟨its,rv,pl,hz⟩:=I.tuple hp;have hlt:p<s⁻¹:=by obtain⟨_,e,_⟩:=pl;exact eR e
  have Oq:s.heap.IsTuple p its.toArray:=pl;refine call_min_walk (t7 Oq ?_);refine⟨s⁻¹,_,_,_,_,_,_,rfl,Walks.tuple (A:=X.A.in1) hh s⁻¹ p (l4 hlt) its.toArray,⟨⟨_,eJ _ rfl,rfl,rfl⟩,IsTup.keeps Oq λb o e=>b0 _ e⟩,λb hb=>?_,by rw[dC,<- rv.length,eA];exact Nat.succ_pos _,CmpOf.ints_lt (λi=>(n::l).getD i 0) (λi v hv=>j8 rv (by simpa using hv)),λv h' tk hP hk=>fin its v h' tk rv (by simpa using hP) (rG hk)⟩
  simp only[d6,kS,yB]at hb;rcases hb with rfl |rfl
  . exact t9 (mE _) (mM _ _).symm
  . exact t9 (y6 hlt) (mM _ _).symm
theorem vK(hK:z.K=X.K)(h:bx d=some l)(hi:aR l=some ns)(pv:Pk z.K M H d v):∃a,v=.ref a/\(cB X.K H a (ns.map V.int)\/fV X.K H a (ns.map V.int)):=by
 cases d with
 |lst m=>symm;obtain⟨a,xs,rfl,e1,e2⟩:=pv.list;have:=aU e2 hi;subst this;exact⟨a,rfl,.inl (cB.of e1)⟩
 |tup m=>symm;obtain⟨a,xs,rfl,e1,e2⟩:=pv.tup;have:=aU e2 hi;subst this;exact⟨a,rfl,.inr (hK▸e1.sq)⟩
 |fix m=>symm;obtain⟨a,xs,rfl,e1,e2⟩:=pv.fix;have:=aU e2 hi;subst this;exact⟨a,rfl,.inl (hK▸e1.sq)⟩
 |_=>symm
theorem Ln(hc:X.calm=true)(hK:z.K=X.K)(h:bx d=some l)(hi:aR l=some (n::ns)):CallD X z (.builtin "min") [d] (.dat (.int (iG n ns))):=by
 refine⟨_,Cb hc,λg Y As M H vs Q s p k=>?_⟩
 obtain⟨v,rfl,pv⟩:=p.one;obtain⟨a,rfl,q⟩:=vK hK h hi pv;exact⟨a,n,ns,rfl,q,k _ _ As M s (az.refl _ _) (.int _)⟩
end
open L2 PySem.W
section
def Gq(X:Cx)(z:Z)(id:String)(d0 d1:D)(r:R):Prop:=
 ∀(g:G) (L: ~~~1) (s:Shared) (Y:Sg) (As M:List Addr) (H:Hp) (v0 v1:V) (u0 u1:Value) (Post:Value->Shared->Prop),L2.Inv X L Y H s->S z g Y As M H->Pk z.K M H d0 v0->Pk z.K M H d1 v1->RelV v0 u0->RelV v1 u1->
  (∀v u s1 H1 aY M1,L2.Inv X L Y H1 s1->RelV v u->S z g Y aY M1 H1->az M H M1 H1->fX z g Y aY M1 H1 r v->Post u s1)->wpAny (~~~2) X.A (call (.builtin id) [u0,u1]) Post X.xe s
theorem Lp(I:L2.Inv X L Y H s)(p:Pk X.K M H d v)(r:RelV v u)(hs:bx d=some l):s.TypeIs u (vn d)/\∀a,u=.ref a->∃ob,s.heap.get? a=some ob/\ob.dict=none:=by
 cases d with
 |tup m=>
  obtain⟨a,xs,rfl,ha,_⟩:=p.tup;cases r;have:∃o,s.heap.get? a=some o/\o.cls=.type "tuple" /\o.dict=none:=by
   rcases ha with ⟨_,hr⟩ |⟨hk,o,e1,e2⟩
   . obtain⟨_,its,_,⟨o,e1,⟨e2,_⟩,e3⟩⟩:=hr.ok I.hok;exact⟨o,e1,e2,e3⟩
   .
    obtain⟨its,_,⟨o',q1,q2,_⟩,_⟩:=I.tuple (hk.elim (λz=>(rd0 z).elim) .inr:fV X.K H a xs)
    have:=I.uT a o e1;rw[q1]at this;cases this;exact⟨_,q1,q2,e2⟩
  obtain⟨o,e1,e2,e3⟩:=this;exact⟨⟨o,e1,e2⟩,λb e=>by cases e;exact⟨o,e1,e3⟩⟩
 |lst m=>obtain⟨a,xs,rfl,ha,_⟩:=p.list;cases r;obtain⟨its,_,pl,_⟩:=I.list (cB.of ha);obtain⟨o,n,e1,e2,e3,e4⟩:=pl;exact⟨⟨o,e1,e2⟩,λb e=>by cases e;exact⟨o,e1,e3⟩⟩
 |fix m=>obtain⟨a,xs,rfl,ha,_⟩:=p.fix;cases r;obtain⟨its,_,pl,_⟩:=I.list ha.sq;obtain⟨o,n,e1,e2,e3,e4⟩:=pl;exact⟨⟨o,e1,e2⟩,λb e=>by cases e;exact⟨o,e1,e3⟩⟩
 |_=>cases hs
theorem Lq{o e:Expr}{name:Str}{id:String}{g g1 g2:G}{r0 r1 r:R}{d d0 d1:D}{l:List D}{dY bQ:Pos}(hK:z.K=X.K)(pa:PlainAttrs (vn d))(slot:PySem.Slot (vn d) name id)(hty:typeOf (.builtin id)=pure (.type "method_descriptor"))
  (h0:aA X z o g r0 g1) (p0:pk r0 g1=some d) (hs:bx d=some l) (ha:cZ X z [e] g1 [r1] g2) (q0:pk r0 g2=some d0) (q1:pk r1 g2=some d1) (hm:Gq X z id d0 d1 r)
  (hbase:attributeBase o name X.env (eval o X.env)=eval o X.env)
  (hfew:((backTo bQ (starEach [e] X.env)).all (λx=>!x.1)&&(backToKw bQ (keywordEach [] X.env)).all (λx=>x.1.isSome)
   && decide ([e].length+([]:List Keyword).length+(if ([]:List Keyword).isEmpty then 0 else 1)<30))=true)
  (hline:(dY.endLine==bQ.line)=true) (eG:starEach [e] X.env=(false,eval e X.env)::starEach [] X.env):aA X z (.Call (.Attribute o name dY) [e] [] bQ) g r g2:=by
 refine aA.of λL s Y As M H Post I st k=>?_
 refine wpAny_Call_method_late hbase hfew hline rfl (h0.run I st λv u s1 H1 aY M1 I1 r1' Dw FJ RD=>?_)
 obtain⟨hT,hd⟩:=Lp I1 (hK▸Dw.pk (az.refl _ _) RD p0) r1' hs;refine⟨_,id,pa,slot,hty,hT,hd,?_⟩;have hA:=ha.run (pos:=bQ) (Post:=λus s2=>wpAny (~~~2) X.A (call (.builtin id) (u::us)) Post X.xe s2) I1 Dw λvs us s2 H2 bI M2 I2 r2 t1 t2 t3=>by
  have qF:=t1.qF t3 (ds:=[d1]) (by unfold qF;rw[q1];rfl)
  obtain⟨v1,rfl,Vh⟩:=qF.one;obtain⟨u1,rfl,Xs⟩:=vals1 r2;exact hm g2 L s2 Y bI M2 H2 v v1 u u1 Post I2 t1 (t1.pk t2 RD q0) Vh r1' Xs λv' u' s3 H3 kO M3 I3 r3 w1 w2 w3=>k v' u' s3 H3 kO M3 I3 r3 w1 (FJ.trans (t2.trans w2)) w3
 rw[eG]at hA ⊢
 exact Calls.callWith_builtin rfl (Calls.evalArgs_plain hA)
end
open L2 PySem.W SeqAt
section
def Ot:D->String
 |.tup _=> "tuple.count"
 |_=> "list.count"
def Xu:D->String
 |.tup _=> "tuple.index"
 |_=> "list.index"
theorem jd:∀{l:List D}{us:List Value},nB h l us->us.countP (mG h x)=l.countP λd=>cP d x
 |_,_,.nil=>rfl
 |_,_,.cons q r=>by rw[List.countP_cons,List.countP_cons,xU q,jd r]
theorem Gr(hK:z.K=X.K)(hs:bx d0=some l)(p1:iZ d1=true)(p2:fS l=true)(hd:X.A.units+deps l+1<cLine):Gq X z (Ot d0) d0 d1 (.dat (.int (l.countP λd=>cP d d1:Nat))):=by
 intro g L s Y As M H v0 v1 u0 u1 Post I st q0 q1 r0 r1 k;rw[hK]at q0 q1;have hx:=q1.dv I r1 p1;have fin:Post (.int (l.countP λd=>cP d d1:Nat) s.toks) { s with toks:=s.toks+1}:=k (.int _) _ _ H As M (I.tok _) ⟨_,rfl⟩ st (az.refl _ _) (.int _)
 cases d0 with
 |tup m=>
  cases hs;obtain⟨a,xs,rfl,ha,rr⟩:=q0.tup;cases r0;obtain⟨its,rv,⟨⟨cls,dd,data,sl⟩,ho,hc,n,hdt⟩,hz⟩:=I.tuple ha.sq;simp only at hc hdt;subst hc hdt;have fB:=rr.dv I rv p2;show wpAny _ _ (call (.builtin "tuple.count") _) _ _ _;refine BH F.slot_tuple_count ⟨_,ho,rfl⟩ F.entry_tuple_count (F.args_tuple_count_2 _ _) (tuple_countAt a its.toArray n dd sl u1 (mG s.heap d1)) ⟨ho,gY fB hx hd,?_⟩;rw[show its.toArray.toList=its from rfl,jd fB]
  exact fin
 |lst m=>
  cases hs;obtain⟨a,xs,rfl,ha,rr⟩:=q0.list;cases r0;obtain⟨its,rv,pl,hz⟩:=I.list (cB.of ha);obtain⟨⟨cls,dd,data,sl⟩,ho,hc,n,hdt⟩:=pl.isList;simp only at hc hdt;subst hc hdt;have fB:=rr.dv I rv p2;show wpAny _ _ (call (.builtin "list.count") _) _ _ _;refine BH B8 ⟨_,ho,rfl⟩ F.entry_list_count (F.args_list_count_2 _ _) (list_countAt a its.toArray n dd sl u1 (mG s.heap d1)) ⟨ho,gY fB hx hd,?_⟩;rw[show its.toArray.toList=its from rfl,jd fB]
  exact fin
 |fix m=>
  cases hs;obtain⟨a,xs,rfl,ha,rr⟩:=q0.fix;cases r0;obtain⟨its,rv,pl,hz⟩:=I.list ha.sq;obtain⟨⟨cls,dd,data,sl⟩,ho,hc,n,hdt⟩:=pl.isList;simp only at hc hdt;subst hc hdt;have fB:=rr.dv I rv p2;show wpAny _ _ (call (.builtin "list.count") _) _ _ _;refine BH B8 ⟨_,ho,rfl⟩ F.entry_list_count (F.args_list_count_2 _ _) (list_countAt a its.toArray n dd sl u1 (mG s.heap d1)) ⟨ho,gY fB hx hd,?_⟩;rw[show its.toArray.toList=its from rfl,jd fB]
  exact fin
 |_=>cases hs
end
open L2 PySem.W SeqAt
section
theorem vL{prog:Program}{w:World}{A:Around}{E:Value->Shared->Prop}{s:Shared}{l:Addr}{vs:List Value}{ns: ~~~0}{b:Bool}{Q:Value->Shared->Prop}(hl:IsTup s.heap l vs.toArray)(hI:IntsAre vs ns)(h64:vs.length<64)
  (k:∀(out:Array Value) (ns': ~~~0),IntsAre out.toList ns'->ns'.Perm ns->Ordered b ns'->Q (.ref (s⁻¹+1)) { s with heap:=sortedAll s.heap vs out}) :
  wpAny (model prog w) A (call (.builtin "sorted") [.ref l] [(Str.ofString "reverse",.bool b)]) Q E s:=by
 refine call_function_entry_kw kind_sorted plain_sorted entry_sorted (args_sorted_rev _ _) ?_;unfold Builtin.«sorted»;refine aS (m:=checkCount "sorted" 1 1 _) (d5 (aS (gq hl (aS (BS ?_)) (by rw[nS];lia))))
 have z:((s.heap.push (seqObj "list" #[] 0)).update s⁻¹ (Obj.mapSeq (· ++ vs.toArray))).objs.size=s⁻¹+1:=by rw[BC,size_push']
 have o:(((s.heap.push (seqObj "list" #[] 0)).update s⁻¹ (Obj.mapSeq (· ++ vs.toArray))).push (seqObj "list" vs.toArray 0)).get? (s⁻¹+1)=some (seqObj "list" vs.toArray 0):=z▸eJ _ rfl;show wpAny _ _ _ _ _ { s with heap:=((s.heap.push (seqObj "list" #[] 0)).update s⁻¹ (Obj.mapSeq (· ++ vs.toArray))).push (seqObj "list" vs.toArray 0)};rw[z];exact aS (lL (wpAny_call_entry_kw slot_list_sort ⟨_,o,rfl⟩ entry_list_sort (list_sort_tree_rev o hI h64 λout ns' a1 a2 a3=>⟨_,rfl,d5 ⟨_,rfl,k out ns' a1 a2 a3⟩⟩) (args_list_sort_rev _ _)))
theorem yd{prog:Program}{w:World}{A:Around}{E:Value->Shared->Prop}{s:Shared}{l:Addr}{vs:List Value}{ns: ~~~0}{b:Bool}{Q:Value->Shared->Prop}(hl:s.heap.IsList l vs.toArray\/IsTup s.heap l vs.toArray)(hI:IntsAre vs ns)(h64:vs.length<64)
  (k:∀(out:Array Value) (ns': ~~~0),IntsAre out.toList ns'->ns'.Perm ns->Ordered b ns'->Q (.ref (s⁻¹+1)) { s with heap:=sortedAll s.heap vs out}) :
  wpAny (model prog w) A (call (.builtin "sorted") [.ref l] [(Str.ofString "reverse",.bool b)]) Q E s:=hl.elim (λh=>sorted_ints_rev h hI h64 k) λh=>vL h hI h64 k
theorem yf{r:R}{d:D}{l:List D}{ns: ~~~0}{j:Nat}(hK:z.K=X.K)(ha:cZ X z [e] g [r] g1)(hp:pk r g1=some d)(hs:bx d=some l)(hi:aR l=some ns)(hl:ns.length<64)
  (hg:Gl X "sorted") (hm:X.mg "sorted"=none) (eG:starEach [e] X.env=(false,eval e X.env)::starEach [] X.env) :
  aA X z (.Call (.Name "sorted" p) [e] [⟨some "reverse",.Constant (.bool true) j kp,kpos⟩] pos) g (.new ((bh ns).reverse.map .int)) g1:=by
 refine aA.of λL s Y As M H Post I st k=>?_
 refine BM (eL I hg hm (by rfl:bootBuiltins ("sorted":Str)=some (.builtin "sorted")) (callWith_kw ?_ (by rw[eG];rfl) (by rw[eG];rfl)))
 refine ha.run I st λvs us s1 H1 aY M1 I1 r1 q1 q2 q3=>?_
 have qF:=q1.qF q3 (ds:=[d]) (by unfold qF;rw[hp];rfl)
 obtain⟨v1,rfl,Vh⟩:=qF.one;obtain⟨u1,rfl,Xs⟩:=vals1 r1;refine kws_cons (Constant_bool (kws_nil ?_));have hq:∃q,v1=.ref q/\(cB X.K H1 q (ns.map V.int)\/fV X.K H1 q (ns.map V.int)):=by
  obtain⟨q,rfl,h⟩:=vK hK hs hi Vh;cases d with
  |lst m=>obtain⟨a,xs,e0,e1,e2⟩:=Vh.list;cases hs;have:=aU e2 hi;subst this;cases e0;exact⟨_,rfl,.inl (cB.of e1)⟩
  |fix m=>obtain⟨a,xs,e0,e1,e2⟩:=Vh.fix;cases hs;have:=aU e2 hi;subst this;cases e0;exact⟨_,rfl,.inl (hK▸e1.sq)⟩
  |tup m=>obtain⟨a,xs,e0,e1,e2⟩:=Vh.tup;cases hs;have:=aU e2 hi;subst this;cases e0;exact⟨_,rfl,.inr (hK▸e1.sq)⟩
  |_=>cases hs
 obtain⟨q,rfl,hq⟩:=hq;cases Xs;obtain⟨its,rv,pl⟩:∃its:List Value,Vals (ns.map V.int) its/\(s1.heap.IsList q its.toArray\/IsTup s1.heap q its.toArray):=by
  rcases hq with hq |hq
  . obtain⟨its,rv,pl,_⟩:=I1.list hq;exact⟨its,rv,.inl pl.isList⟩
  . obtain⟨its,rv,pl,_⟩:=I1.tuple hq;exact⟨its,rv,.inr pl⟩
 have aL:=rv.length;rw[eA]at aL;refine yd (b:=true) pl (intsAre_of rv) ⋯ λout ns' a1 a2 a3=>?_
 have e0:ns'=(bh ns).reverse:=by
  have hr:ns'.reverse.Pairwise (· <= ·):=by rw[List.pairwise_reverse];exact a3
  have:=jE ((List.reverse_perm ns').trans a2) hr;rw[<- this,List.reverse_reverse]
 subst e0;obtain⟨ep,he⟩:=sortedAll_at s1.heap its out;have hf:H1 (s1⁻¹+1)=none:=I1.hok.fresh (AO _);have hlen2:(bh ns).reverse.length=ns.length:=by rw[AR];exact (bL ns).length_eq
 refine k (.ref (s1⁻¹+1)) _ _ (upd H1 (s1⁻¹+1) (.lst ((bh ns).reverse.map V.int))) aY ((s1⁻¹+1)::M1) (I1.laid (t':=s1.toks) (o:=.lst ((bh ns).reverse.map V.int)) (λb o e=>sortedAll_old e) (AO _) ?_) rfl (q1.aV hf) (q2.trans (az.aV hf)) ⟨_,_,rfl,c8,λhA=>q1.fresh hf (q1.sub _ hA),q1.cH hf,aG,lC _⟩
 refine⟨by rw[eA,hlen2,nS];lia,out.toList,ep,iY a1,?_⟩
 rw[he]
end
open L2 PySem.W SeqAt
open L2 PySem.W SeqAt
noncomputable def Its(lo c:Int)(n:Nat):It:=⟨λi _=>i<n,λi H x H'=>H'=H/\x=.int (lo+i * c),λi _=>n<=i⟩
theorem Cd{P:Program}{w:World}{K:Frag}{tg:Expr}(it:Addr)(lo c:Int)(n:Nat):Turn P w K tg (Its lo c n) [it] it (λi h=>IsRangeIter h it (lo+(i:Nat) * c) ((n:Int) - (i:Nat)) c) where
 mem:=by simp
 obj:=λi h st b hb=>by
  cases eP.mp hb;exact⟨_,st,λv z=>nomatch (show Data.fields _=Data.cell v from z)⟩
 keep:=λi h h' st k=>k it ⋯ _ st
 item:=by
  intro X hP hw hK hc i L s Y H E I hf st hg;subst hP hw hK;obtain⟨f0,f1,f2,f3,f4,f5⟩:=hf it ⋯;refine (Walks.range (prog:=X.prog) (w:=X.w) (I.ok.hd hc) it lo c n).item i s _ _ hg st λv h' tk hv st' kk=>?_
  obtain⟨t,rfl⟩:=hv;refine⟨_,rfl,zj (s:={ s with heap:=h',toks:=tk}) (n:= "range_iterator") st' rfl rfl ⋯ ⟨.int (lo+i * c),H,?_,⟨t,rfl⟩,⟨rfl,rfl⟩,st',λb hb=>(hf b hb).1⟩⟩
  exact I.turned (λb o hb e=>kk b o (by simpa using hb) e) f0 f1 f3 f4 f5
 done:=by intro X hP hw hK hc i L s Y H E I hf st hg;subst hP hw hK;obtain⟨f0,f1,f2,f3,f4,f5⟩:=hf it ⋯;exact wpAny_pyNext_range_end (I.ok.hd hc) st (by have:n<=i:=hg;lia) λh' eb=>⟨rfl,I.turned (t':=s.toks) (λb o hb e=>eb b o hb e) f0 f1 f3 f4 f5⟩
 self:=λ_ _ _ _ _ st h=>wpAny_pyIter_rangeiter st h
noncomputable def qH(lo c:Int)(n:Nat):List D:=(List.range n).map λ(k:Nat)=>D.int (lo+(k:Int) * c)
theorem vM(lo c:Int)(n:Nat):(qH lo c n).length=n:=by simp[qH]
theorem Gs{lo c:Int}{n k:Nat}(h:k<n):(qH lo c n)[k]?=some (.int (lo+(k:Int) * c)):=by simp[qH,h]
theorem R3{lo c:Int}{n:Nat}{K:Frag}{M:List Addr}{H:Hp}:Jt (Its lo c n) (qH lo c n) K M H:=λM2 H2 _=>by
 refine⟨λk d hd=>?_,?_⟩
 .
  have hk:k<n:=by have:=(dA.mp hd).1;rw[vM]at this;exact this
  rw[Gs hk]at hd;cases hd;refine⟨hk,λx H' hx z' g' σ' aF _ s'=>?_⟩
  obtain⟨rfl,rfl⟩:=hx;exact⟨s',az.refl _ _,.int _⟩
 . show n<=(qH lo c n).length;rw[vM];exact eD _
noncomputable def lG(lo hi c:Int):Nat:=if lo<hi then ((hi - lo - 1) / c+1).toNat else 0
theorem zK{lo hi c:Int}(hc:0<c):Builtin.Range.rangeSize lo hi c=(lG lo hi c:Int):=by
 unfold Builtin.Range.rangeSize lG;rw[fN hc];split
 . have:0<=(hi - lo - 1) / c:=Int.ediv_nonneg ⋯ ⋯;lia
 . rfl
theorem yg{a b c:Int}(h1 : -(2 ^ 30)<=a/\a<2 ^ 30)(h2 : -(2 ^ 30)<=b/\b<2 ^ 30)(h3:0<c/\c<2 ^ 30):Builtin.Range.small a b c=true:=by
 have hn:=zK (lo:=a) (hi:=b) h3.1;unfold Builtin.Range.small;rw[hn];have hb:(lG a b c:Int)<=2 ^ 31+1:=by
  unfold lG;split
  . have:(b - a - 1) / c<=b - a - 1:=Int.ediv_le_self _ ⋯;lia
  . decide
 have hm:(lG a b c:Int) * c<=(2 ^ 31+1) * 2 ^ 30:=Int.mul_le_mul hb ⋯ ⋯ ⋯;have hm0:0<=(lG a b c:Int) * c:=Int.mul_nonneg ⋯ ⋯;have hc0:c > 0:=h3.1;simp only[Builtin.Range.rangeFitsLong,dE,sK,dL,beq_iff_eq,hc0,yA];lia
section
theorem dJ.of (h:∀(L: ~~~1) (s:Shared) (Y:Sg) (As M:List Addr) (H:Hp) (Post:Value->Shared->Prop),L2.Inv X L Y H s->S z g Y As M H->
  (∀v s1,(∀(R:It->Hp->Prop),(∀J H' aF M',S z g1 Y aF M' H'->az M H M' H'->Jt J aj z.K M' H'->R J H')->wpAny (~~~2) X.A (pyIter v) (PIE X L Y tg R) X.xe s1)->Post v s1)->wpAny (~~~2) X.A (eval iter X.env) Post X.xe s):dJ X z tg iter g aj g1:=
 ⟨λY H R=>∃As M,S z g Y As M H/\(∀J H' aF M',S z g1 Y aF M' H'->az M H M' H'->Jt J aj z.K M' H'->R J H'),λL s Y H R I ⟨As,M,st,k⟩=>h L s Y As M H _ I st λv s1 q=>q R k,λY As M H R s k=>⟨As,M,s,k⟩⟩
theorem Lr{lo hi st:Int}(h:cZ X z [a,b,c] g [‹lo›,‹hi›,‹st›] g1)(hg:Gl X "range")(hm:X.mg "range"=none)(hs:starEach [a,b,c] X.env=(false,eval a X.env)::starEach [b,c] X.env)(mh:(backTo rp (starEach [b,c] X.env)).any (·.1)=false)
  (h1 : -(2 ^ 30)<=lo/\lo<2 ^ 30) (h2 : -(2 ^ 30)<=hi/\hi<2 ^ 30) (h3:0<st/\st<2 ^ 30):dJ X z tg (.Call (.Name "range" p) [a,b,c] [] rp) g (qH lo st (lG lo hi st)) g1:=by
 refine dJ.of λL s Y As M H Post I Xv k=>?_
 refine Call_ (eL I hg hm boot_range (l8 (h.run I Xv λvs us s1 H1 aY M1 I1 r1 q1 q2 q3=>?_) hs mh))
 cases q3 with
 |dat r R=>
  cases R with
  |dat r' R=>
   cases R with
   |dat r'' R=>
    cases R;cases r;cases r';cases r'';cases r1 with
    |cons r rr=>
     cases rr with
     |cons r' rr=>
      cases rr with
      |cons r'' rr=>
       cases rr;obtain⟨t,rfl⟩:=r;obtain⟨t',rfl⟩:=r';obtain⟨t'',rfl⟩:=r'';refine call_range_3 ⋯ (k _ _ λR kR=>?_) (.inl (PyProof.noPylong_small ⋯))
       refine wpAny_pyIter_range (IsRange.new ..) (yg h1 h2 h3) ?_;generalize hh:s1.heap.push { cls:=.type "range",data:=.fields #[.int lo t,.int hi t',.int st t'']}=hp;have I2:L2.Inv X L Y H1 { s1 with heap:=hp}:=I1.kept λb o e=>hh▸b0 _ e
       refine⟨hp.objs.size,[hp.objs.size],_,Its lo st (lG lo hi st),H1,rfl,I2.kept (t':=s1.toks) λb o e=>b0 _ e,Cd _ lo st _,?_,λb hb=>?_,kR _ H1 aY M1 q1 q2 R3⟩
       .
        show IsRangeIter _ _ (lo+((0:Nat):Int) * st) (((lG lo hi st:Nat):Int) - ((0:Nat):Int)) st;rw[show lo+((0:Nat):Int) * st=lo by simp,show ((lG lo hi st:Nat):Int) - ((0:Nat):Int)=Builtin.Range.rangeSize lo hi st by rw[zK h3.1];simp]
        exact eJ _ rfl
       . cases eP.mp hb;exact I2.uY (eD _) (I2.hok.fresh (eD _))
end
open L2 PySem.W SeqAt
section
theorem yh(hit:s.heap.IsTupleIter it t i)(ht:s.heap.IsTuple t aj)(hx:aj[i]?=some x)(hQ:∀h',h'.IsTupleIter it t (i+1)->Heap.SameBut it s.heap h'->Q x { s with heap:=h'}):wpAny (model prog w) A (Builtin.SmallTypes.nextOf (.ref it)) Q E s:=by
 obtain⟨o,ho,hc,hd⟩:=id hit;obtain⟨ol,ZC,_,nl,hdl⟩:=ht;unfold Builtin.SmallTypes.nextOf;refine aS (sR (name:=Str.ofString "__next__") hit.typeIs AB (vS AB hit.typeIs F.entry_tuple_iterator_next ?_ (F.args_tuple_iterator_next_1 _)));show wpAny _ _ (field (.ref it) 0 >>= _) _ _ s;refine aS (sB ho hd (x:=.ref t) rfl ?_);show wpAny _ _ (if (Value.ref t==Value.none)=true then _ else _) _ _ s
 rw[hU (show ¬ ((Value.ref t==Value.none)=true)from i8)]
 show wpAny _ _ (field (.ref it) 1 >>= _) _ _ s;refine aS (sB ho hd (x:=.int i 0) rfl ?_);show wpAny _ _ (seqItems? (.ref t) >>= _) _ _ s;refine aS (tS ZC hdl ?_);simp only[o6,hx];refine aS (wpAny_setField ho hd ⋯ (d5 ⟨x,rfl,d5 (hQ _ ⟨_,wT _ ho (Obj.isFreed_of_fields (Obj.data_mapFields hd _)),(Obj.cls_mapFields ..).trans hc,?_⟩ (Heap.SameBut.update ..))⟩));rw[Obj.data_mapFields hd];simp[rawInt]
theorem qI(hh:A.handled=none)(hit:s.heap.IsTupleIter it t i)(ht:s.heap.IsTuple t aj)(hx:aj[i]?=none)
  (hE:∀h' e,Heap.ExtBut it s.heap h'->(∃o,h'.get? e=some o/\o.cls=.type "StopIteration")->E (.ref e) { s with heap:=h'}):wpAny (model prog w) A (Builtin.SmallTypes.nextOf (.ref it)) Q E s:=by
 obtain⟨o,ho,hc,hd⟩:=id hit;obtain⟨ol,ZC,_,nl,hdl⟩:=ht;unfold Builtin.SmallTypes.nextOf;refine aS (sR (name:=Str.ofString "__next__") hit.typeIs AB (vS AB hit.typeIs F.entry_tuple_iterator_next ?_ (F.args_tuple_iterator_next_1 _)));show wpAny _ _ (field (.ref it) 0 >>= _) _ _ s;refine aS (sB ho hd (x:=.ref t) rfl ?_);show wpAny _ _ (if (Value.ref t==Value.none)=true then _ else _) _ _ s
 rw[hU (show ¬ ((Value.ref t==Value.none)=true)from i8)]
 show wpAny _ _ (field (.ref it) 1 >>= _) _ _ s;refine aS (sB ho hd (x:=.int i 0) rfl ?_);show wpAny _ _ (seqItems? (.ref t) >>= _) _ _ s;refine aS (tS ZC hdl ?_);simp only[o6,hx];refine aS (C1 (aS (wpAny_setField ho hd ⋯ ?_)));show wpAny _ _ (newExc (.type "StopIteration") [] >>= _) _ _ _;refine aS ?_;simp only[newExc,newTuple];refine aS (nK (aS (m:=firstArgMember _ _) (wpAny_of_eq (a:=Value.none) (by first |rfl | (simp only[firstArgMember];rfl)) (nK ?_ (by size_fits)))) (by size_fits))
 simp only[raiseNew];refine aS (wpAny_handled ?_)
 first |rw[show A.in1.handled=none from hh] |rw[hh]
 exact aS (d5 (wpAny_throw (hE _ _ (((Heap.SameBut.update ..).extBut.push _).push _) ⟨_,eJ _ rfl,rfl⟩)))
theorem R5(hh:A.handled=none)(it t:Addr)(g7:t≠it)(aj:Array Value):Draws prog w A it [it,t] aj.size (λi v=>aj[i]?=some v) (λi h=>h.IsTupleIter it t i/\h.IsTuple t aj) where
 live:=λ_ _ st=>let ⟨o,ho,_⟩:=st.1;⟨o,ho⟩
 frame:=λ_ _ _ st hk=>by
  obtain⟨⟨o,ho,r⟩,⟨o',ho',r'⟩⟩:=st;exact⟨⟨o,hk it ⋯ o ho,r⟩,⟨o',hk t ⋯ o' ho',r'⟩⟩
 item:=λi s Q E hi st hQ=>yh st.1 st.2 (x:=aj[i]) (by simp[hi]) λh' hit' hs'=>hQ _ h' s.toks (by simp[hi]) ⟨hit',IsTup.extBut st.2 hs'.extBut g7⟩ hs'
 done:=λs Q E st hE=>qI hh st.1 st.2 ⋯ hE
theorem vN(l:Addr)(aj:Array Value)(n:Nat)(dct:Option Addr)(sl:Array (Option Value)) :
  Meets (Builtin.«enumerate.__new__» ⟨[.type "enumerate",.ref l],[]⟩) (λ_ R s=>s.heap.get? l=some { cls:=.type "tuple",dict:=dct,data:=.seq aj n,slots:=sl}/\R (.ok (.ret (.ref (s.heap.push { cls:=.type "tuple_iterator",data:=.fields #[.ref l,.int 0 0]}).objs.size)))
    { s with heap:=(s.heap.push { cls:=.type "tuple_iterator",data:=.fields #[.ref l,.int 0 0]}).push { cls:=.type "enumerate",data:=.fields #[.none,.bool false,.ref s⁻¹,rawInt 0,.none,.none]}}):=
 .of_wp λprog w A R s h=>by
  obtain⟨hp,g,d,tk,os⟩:=s;obtain⟨hl,h⟩:=h;have hsub:=sub_enumerate;have hL:Heap.IsTuple (Shared.heap ⟨hp,g,d,tk,os⟩) l aj:=⟨_,hl,rfl,n,rfl⟩
  wp_walk using BI hl
  refine wpAny_stack_any λst=>d5 ?_
  split
  . rename_i c _ _ _ _ _;cases (c==Value.type "enumerate") <;> (wp_walk using BI hl,t7 hL;exact⟨_,rfl,h⟩)
  .
   wp_walk using BI hl,t7 hL
   exact⟨_,rfl,h⟩
theorem yj(hL:s.heap.IsTuple l aj)
  (h:∀h',IsEnum h' (s⁻¹+1) s⁻¹ 0 .none->h'.IsTupleIter s⁻¹ l 0->h'.objs.size=s⁻¹+2->(∀b o,s.heap.get? b=some o->h'.get? b=some o)->Q (.ref (s⁻¹+1)) { s with heap:=h'}) :
  wpAny (model prog w) A (call (.type "enumerate") [.ref l]) Q E s:=by
 obtain⟨⟨c,dct,dt,sl⟩,hl,hc,n,hd⟩:=hL;cases (show c=.type "tuple" from hc)
 cases (show dt=.seq aj n from hd)
 refine callType_new F.called_enumerate ⋯ (F.typeCall_enumerate_1 _) (F.newCall_enumerate_1 _) (λobj=>F.args_object_init_2 obj _) F.entry_enumerate_new (vN l aj n dct sl) ⟨hl,?_⟩
 generalize hq:s.heap.push { cls:=.type "tuple_iterator",data:=.fields #[.ref l,.int 0 0]}=h1;have hz:h1.objs.size=s⁻¹+1:=by rw[<- hq];exact mM ..
 have hi:h1.get? s⁻¹=some { cls:=.type "tuple_iterator",data:=.fields #[.ref l,.int 0 0]}:=by rw[<- hq];exact eJ _ rfl
 have he:IsEnum (h1.push { cls:=.type "enumerate",data:=.fields #[.none,.bool false,.ref s⁻¹,rawInt 0,.none,.none]}) h1.objs.size s⁻¹ 0 .none:=eJ h1 rfl;show _/\_;rw[hz]at he ⊢
 exact⟨⟨_,he,rfl⟩,h _ he ⟨_,b0 _ hi,rfl,rfl⟩ (by rw[mM,hz]) λb o x=>b0 _ (by rw[<- hq];exact b0 _ x)⟩
end
open L2 PySem.W SeqAt
def nU(tp:Bool)(K:Frag)(H:Hp)(a:Addr)(xs:List V):Prop:=match tp with |true=>fV K H a xs |false=>cB K H a xs
def DK(tp:Bool)(h:Heap)(it a:Addr)(i:Nat):Prop:=match tp with |true=>h.IsTupleIter it a i |false=>h.IsListIter it a i
def Xw(tp:Bool)(h:Heap)(a:Addr)(its:List Value):Prop:=match tp with |true=>h.IsTuple a its.toArray |false=>h.IsList a its.toArray
section
theorem nU.real(I:L2.Inv X L Y H s)(h:nU tp X.K H a xs):∃its:List Value,Vals xs its/\Xw tp s.heap a its/\xs.length<=sizeLine:=by
 cases tp with
 |true=>exact I.tuple h
 |false=>obtain⟨its,r,pl,hz⟩:=I.list h;exact⟨its,r,pl.isList,hz⟩
theorem nU.inj(I:L2.Inv X L Y H s)(h:nU tp X.K H a xs)(h':nU tp X.K H a ys):xs=ys:=by
 cases tp with
 |true=>exact I.qQ h h'
 |false=>exact I.uW h h'
theorem DK.obj(x:DK tp h it a i):∃o vs,h.get? it=some o/\o.data=.fields vs:=by
 cases tp with
 |true=>obtain⟨o,e,_,d⟩:=(show h.IsTupleIter it a i from x);exact⟨o,_,e,d⟩
 |false=>obtain⟨o,e,_,d⟩:=(show h.IsListIter it a i from x);exact⟨o,_,e,d⟩
theorem DK.keep(x:DK tp h it a i)(k:∀o,h.get? it=some o->h'.get? it=some o):DK tp h' it a i:=by
 cases tp with
 |true=>obtain⟨o,e,d⟩:=(show h.IsTupleIter it a i from x);exact⟨o,k o e,d⟩
 |false=>obtain⟨o,e,d⟩:=(show h.IsListIter it a i from x);exact⟨o,k o e,d⟩
theorem lH(hh:A.handled=none)(g7:a≠it)(its:List Value):Draws prog w A it [it,a] its.length (λi v=>its[i]?=some v) (λi h=>DK tp h it a i/\Xw tp h a its):=by
 cases tp with
 |true=>have:=R5 (prog:=prog) (w:=w) hh it a g7 its.toArray;simp only[dC,List.getElem?_toArray]at this;exact this
 |false=>have:=Draws.list (prog:=prog) (w:=w) hh it a g7 its.toArray;simp only[dC,List.getElem?_toArray]at this;exact this
end
def Ite(tp:Bool)(K:Frag)(a:Addr):It:=
 ⟨λi H=>∃xs x,nU tp K H a xs/\xs[i]?=some x,λi H x H'=>∃p y,(∀xs,nU tp K H a xs->xs[i]?=some y)/\H p=none/\x=.ref p/\H'=upd H p (.tup [.int i,y]),λi H=>∃xs,nU tp K H a xs/\xs.length=i⟩
theorem Ce{P:Program}{w:World}{K:Frag}{tp:Bool}{es:List Expr}{k:Nat}{pos:Pos}(e it a:Addr)(hei:e≠it):Turn P w K (.Tuple es k pos) (Ite tp K a) [e,it] e (λi h=>(∃old,IsEnum h e it i old)/\DK tp h it a i) where
 mem:=by simp
 obj:=λi h st b hb=>by
  obtain⟨⟨old,he⟩,hi⟩:=st;rcases d6.mp hb with rfl |hb
  . exact⟨_,he,λv z=>nomatch (show Data.fields _=Data.cell v from z)⟩
  . cases eP.mp hb;obtain⟨o,vs,e1,e2⟩:=hi.obj;exact⟨o,e1,λv z=>by rw[e2]at z;cases z⟩
 keep:=λi h h' st k=>by
  obtain⟨⟨old,he⟩,hi⟩:=st;exact⟨⟨old,k e ⋯ _ he⟩,hi.keep λo q=>k it ⋯ o q⟩
 item:=by
  intro X hP hw hK hc i L s Y H E I hf st hg;subst hP hw hK;obtain⟨⟨old,he⟩,hi⟩:=st;obtain⟨xs,x,hq,hx⟩:=hg;obtain⟨its,rv,hat,hz⟩:=hq.real I;obtain⟨f0,f1,f2,f3,f4,f5⟩:=hf e ⋯;obtain⟨g0,g1,g2,g3,g4,g5⟩:=hf it ⋯;have hae:a≠e:=λz=>by
   subst z;cases tp with
   |true=>obtain⟨o,e1,e2,_⟩:=(show s.heap.IsTuple a its.toArray from hat);rw[he]at e1;cases e1;exact absurd (show Value.type "enumerate"=Value.type "tuple" from e2) ⋯
   |false=>obtain⟨o,e1,e2,_⟩:=(show s.heap.IsList a its.toArray from hat);rw[he]at e1;cases e1;exact absurd (show Value.type "enumerate"=Value.type "list" from e2) ⋯
  have hai:a≠it:=λz=>by
   subst z;cases tp with
   |true=>obtain⟨o,e1,e2,_⟩:=(show s.heap.IsTuple a its.toArray from hat);obtain⟨o',e3,e4,_⟩:=(show s.heap.IsTupleIter a a i from hi);rw[e1]at e3;cases e3;rw[e2]at e4;exact absurd e4 ⋯
   |false=>obtain⟨o,e1,e2,_⟩:=(show s.heap.IsList a its.toArray from hat);obtain⟨o',e3,e4,_⟩:=(show s.heap.IsListIter a a i from hi);rw[e1]at e3;cases e3;rw[e2]at e4;exact absurd e4 ⋯
  have hlt:i<its.length:=by rw[<- rv.length];exact (dA.mp hx).1
  refine wpAny_pyNext_enum_itemD (A:=X.A) (lH (tp:=tp) (A:=X.A.in1) (I.ok.hd hc) hai its) he ⟨hi,hat⟩ hlt hei (by simp[hei,oQ hae]) λu h1 tk hu hout eG ht za hkp=>⟨_,rfl,?_⟩
  refine wpAny_letOwnedTupleGo_enum hout λh2 he2 hs2=>?_
  replace hs2:Heap.SameBut e h1 h2:=hs2;obtain⟨u',e1,ru⟩:=rv.get hx;rw[hu]at e1;cases e1;have hpe:s⁻¹≠e:=Cn (eR he);obtain⟨oi,vsi,ei,di⟩:=eG.1.obj;have ei2:h2.get? it=some oi:=(hs2.2 it (oQ hei)).trans ei;obtain⟨oi0,_,ei0,_⟩:=hi.obj;have k1:∀b o,b≠e->s.heap.get? b=some o->(s.heap.update e λ_=>_).get? b=some o:=λb o hb q=>(lS s.heap (λ_=>({ cls:=.type "enumerate",dict:=none,data:=.fields #[.none,.bool false,.ref it,rawInt ((i:Int)+1),.none,u],slots:=#[]}:Obj)) (oQ hb)).trans q
  have I1:=I.turned (t':=s.toks) k1 f0 f1 f3 f4 f5;have k2:∀b o,b≠it->(s.heap.update e λ_=>_).get? b=some o->((s.heap.update e λ_=>({ cls:=.type "enumerate",dict:=none,data:=.fields #[.none,.bool false,.ref it,rawInt ((i:Int)+1),.none,u],slots:=#[]}:Obj)).update it λ_=>oi).get? b=some o:=λb o hb q=>(lS _ (λ_=>oi) (oQ hb)).trans q
  have I2:=I1.turned (t':=tk+1) k2 g0 g1 g3 g4 g5;have hse:(s.heap.update e λ_=>({ cls:=.type "enumerate",dict:=none,data:=.fields #[.none,.bool false,.ref it,rawInt ((i:Int)+1),.none,u],slots:=#[]}:Obj)).get? e=some _:=wT _ he rfl
  have k3:∀b o,((s.heap.update e λ_=>({ cls:=.type "enumerate",dict:=none,data:=.fields #[.none,.bool false,.ref it,rawInt ((i:Int)+1),.none,u],slots:=#[]}:Obj)).update it λ_=>oi).get? b=some o->h2.get? b=some o:=λb o q=>by
   by_cases hb:b=it
   .
    subst hb;have z:=wT (λ_=>oi) (k1 b oi0 (oQ hei) ei0) (Obj.isFreed_of_fields di)
    rw[z]at q;cases q;exact ei2
   .
    rw[lS _ _ (oQ hb)]at q;by_cases hb2:b=e
    . subst hb2;rw[hse]at q;cases q;exact he2
    . rw[lS _ _ (oQ hb2)]at q;exact (hs2.2 b hb2).trans (hkp b o hb2 hb q)
  have hsz2:((s.heap.update e λ_=>({ cls:=.type "enumerate",dict:=none,data:=.fields #[.none,.bool false,.ref it,rawInt ((i:Int)+1),.none,u],slots:=#[]}:Obj)).update it λ_=>oi).objs.size<=s⁻¹:=by rw[BC,BC];exact eD _
  have I3:=I2.laid (a:=s⁻¹) (o:=.tup [.int i,x]) (t':=tk+1) k3 hsz2 ⟨by rw[nS];show 2<=16777216;decide,[.int i tk,u],.cons ⟨tk,rfl⟩ (.cons ru .nil),⟨_,(hs2.2 _ hpe).trans ht,⟨rfl,_,rfl⟩,rfl⟩⟩
  have hfr:H s⁻¹=none:=I.hok.fresh (eD _);refine⟨.ref s⁻¹,_,I3,rfl,⟨_,x,λys hy=>by rw[hy.inj I hq];exact hx,hfr,rfl,rfl⟩,⟨⟨u,he2⟩,eG.1.keep λo q=>(hs2.2 it (oQ hei)).trans q⟩,λb hb=>?_⟩
  have hbn:b≠s⁻¹:=λz=>by
   rcases d6.mp hb with rfl |hb
   . exact hpe z.symm
   . cases eP.mp hb;exact absurd (eR ei0) (by rw[z];exact mP _)
  rw[aC hbn];exact (hf b hb).1
 done:=by
  intro X hP hw hK hc i L s Y H E I hf st hg;subst hP hw hK;obtain⟨⟨old,he⟩,hi⟩:=st;obtain⟨xs,hq,hx⟩:=hg;obtain⟨its,rv,hat,hz⟩:=hq.real I;obtain⟨g0,g1,g2,g3,g4,g5⟩:=hf it ⋯;have hai:a≠it:=λz=>by
   subst z;cases tp with
   |true=>obtain⟨o,e1,e2,_⟩:=(show s.heap.IsTuple a its.toArray from hat);obtain⟨o',e3,e4,_⟩:=(show s.heap.IsTupleIter a a i from hi);rw[e1]at e3;cases e3;rw[e2]at e4;exact absurd e4 ⋯
   |false=>obtain⟨o,e1,e2,_⟩:=(show s.heap.IsList a its.toArray from hat);obtain⟨o',e3,e4,_⟩:=(show s.heap.IsListIter a a i from hi);rw[e1]at e3;cases e3;rw[e2]at e4;exact absurd e4 ⋯
  have hl:i=its.length:=by rw[<- rv.length];exact hx.symm
  subst hl;exact wpAny_pyNext_enum_endD (A:=X.A) (lH (tp:=tp) (A:=X.A.in1) (I.ok.hd hc) hai its) he ⟨hi,hat⟩ λh' eb=>⟨rfl,I.turned (t':=s.toks) (λb o hb q=>eb b o hb q) g0 g1 g3 g4 g5⟩
 self:=λA i s Q E st h=>by
  obtain⟨⟨old,he⟩,_⟩:=st;exact wpAny_pyIter_enum he h
section
def mL(l:List D):List D:=l.zipIdx.map λp=>.tup [.int (p.2:Nat),p.1]
theorem Cg{l:List D}{n:Nat}{d:D}(h:(mL l)[n]?=some d):∃x,l[n]?=some x/\d=.tup [.int n,x]:=by
 unfold mL at h;rw[tJ]at h;cases e:l.zipIdx[n]? with
 |none=>rw[e]at h;symm
 |some q=>
  rw[e]at h;symm;rw[List.getElem?_zipIdx]at e;cases e2:l[n]? with
  |none=>rw[e2]at e;cases e
  |some x=>rw[e2]at e;cases e;exact⟨x,rfl,by simp⟩
theorem Ci(l:List D):(mL l).length=l.length:=by simp[mL]
theorem Ls{d:D}{l:List D}(hK:z.K=X.K)(ha:cZ X z [e] g [.dat d] g1)(hs:bx d=some l)(hg:Gl X "enumerate")(hm:X.mg "enumerate"=none)(eG:starEach [e] X.env=[(false,eval e X.env)]) :
  dJ X z (.Tuple es k pos) (.Call (.Name "enumerate" p) [e] [] rp) g (mL l) g1:=by
 refine dJ.of λL s Y As M H Post I Xv kk=>?_
 refine Call_ (eL I hg hm boot_enumerate (l8 (ha.run I Xv λvs us s1 H1 aY M1 I1 r1 q1 q2 q3=>?_) eG rfl))
 cases q3 with
 |dat rp0 R=>
  cases R;obtain⟨u,rfl,ru⟩:=vals1 r1;have main:∀(tp:Bool) (a:Addr) (xs:List V) (its:List Value),u=.ref a->Xw tp s1.heap a its->aI z.K M1 H1 l xs->(∀M2 H2,az M1 H1 M2 H2->nU tp X.K H2 a xs)->
    (∀Q:Value->Shared->Prop,(∀h',IsEnum h' (s1⁻¹+1) s1⁻¹ 0 .none->DK tp h' s1⁻¹ a 0->h'.objs.size=s1⁻¹+2->(∀b o,s1.heap.get? b=some o->h'.get? b=some o)->Q (.ref (s1⁻¹+1)) { s1 with heap:=h'})->
     wpAny (~~~2) X.A (call (.type "enumerate") [.ref a]) Q X.xe s1)->wpAny (~~~2) X.A (call (.type "enumerate") [u]) Post X.xe s1:=λtp a xs its hu hat rr hsq hcall=>by
   subst hu;refine hcall _ λh' he hi za hk=>kk _ _ λR kR=>?_
   refine wpAny_pyIter_enum he ?_;have I2:L2.Inv X L Y H1 { s1 with heap:=h'}:=I1.kept (t':=s1.toks) hk;refine⟨_,[s1⁻¹+1,s1⁻¹],_,Ite tp X.K a,H1,rfl,I2,Ce _ _ a (Nat.succ_ne_self _),⟨⟨_,he⟩,hi⟩,λb hb=>?_,kR _ H1 aY M1 q1 q2 λM2 H2 aN=>?_⟩
   .
    rcases d6.mp hb with rfl |hb
    . exact I1.uY (AO _) (I1.hok.fresh (AO _))
    . cases eP.mp hb;exact I1.uY (eD _) (I1.hok.fresh (eD _))
   .
    have Dz:=rr.stay aN;refine⟨λn d hd=>?_,xs,hsq M2 H2 aN,by rw[Ci];exact rr.length.symm⟩
    obtain⟨x,e1,rfl⟩:=Cg hd;obtain⟨v,e2,e3⟩:=Dz.get e1;refine⟨⟨xs,v,hsq M2 H2 aN,e2⟩,λy H' hy z' g' σ' aF hz' s'=>?_⟩
    obtain⟨p,y',w1,w3,rfl,rfl⟩:=hy;have w2:=w1 xs (hsq M2 H2 aN);rw[e2]at w2;cases w2;refine⟨s'.laid w3,az.laid w3,.tup (.inl ⟨s'.fresh w3,.inl aG⟩) (.cons (.int _) (.cons (e3.stay (az.laid w3)) .nil))⟩
  cases rp0 with
  |@lst _ a xs hb rr=>cases hs;cases ru;obtain⟨its,rv,pl,hz⟩:=I1.list (cB.of hb.2);exact main false a xs its rfl pl.isList rr (λM2 H2 aN=>cB.of (aN _ _ hb.2 hb.1).1) λQ h=>call_enumerate_list pl.isList h
  |@tup _ a xs hb rr=>
   cases hs;cases ru;obtain⟨its,rv,pl,hz⟩:=I1.tuple (hK▸hb.sq);refine main true a xs its rfl pl rr (λM2 H2 aN=>?_) λQ h=>yj pl h
   have:TupAt z.K M2 H2 a xs:=by
    rcases hb with ⟨na,hr⟩ |hk
    . exact .inl (aN.rd na hr)
    . exact .inr hk
   exact hK▸this.sq
  |@fix _ a xs hb rr=>
   cases hs;cases ru;obtain⟨its,rv,pl,hz⟩:=I1.list (hK▸hb.sq);refine main false a xs its rfl pl.isList rr (λM2 H2 aN=>?_) λQ h=>call_enumerate_list pl.isList h
   have:mD z.K M2 H2 a xs:=by
    rcases hb with ⟨na,o,hr⟩ |hk
    . exact .inl ⟨(aN _ _ hr na).2,o,(aN _ _ hr na).1⟩
    . exact .inr hk
   exact hK▸this.sq
  |_=>cases hs
end
open L2 PySem.W SeqAt
section
theorem Cj(hc:X.calm=true)(hK:z.K=X.K)(hN:X.N[i]?=some x)(hv:mq X.env.scope x)(hd:(x==(~~~3))=false)(eF:(x==("__classdict__":Str))=false)
  (R7:X.N[j]?=some y) (hv2:mq X.env.scope y) (hd2:(y==(~~~3))=false) (R8:(y==("__classdict__":Str))=false)
  (h:aA X z e g (.dat (.tup [d1,d2])) g1) (uM:g1[i]?=some (.own l0)) (h2:aA X z ix g1 ‹n1› g2) (Xi:g2[i]?=some (.own l)) (hj:nk l.length n1=some m1)
  (hg3:(g2.set i (.own (l.set m1 d1)))[j]?=some (.own l1)) (h3:aA X z Xx (g2.set i (.own (l.set m1 d1))) ‹n2› g3) (hg4:g3[j]?=some (.own l2)) (hj2:nk l2.length n2=some m2)
  (ha:∀v,assign (.Subscript (.Name x pn) ix bY) X.env v=(do
   let ov <- holding [v] (eval (.Name x pn) X.env)
   let iv <- holding [v,ov] (eval ix X.env)
   standAt bY
   holding [v,ov,iv] (setItem ov iv v)
   release [v,ov,iv] []))
  (ha2:∀v,assign (.Subscript (.Name y Gu) Xx iH) X.env v=(do
   let ov <- holding [v] (eval (.Name y Gu) X.env)
   let iv <- holding [v,ov] (eval Xx X.env)
   standAt iH
   holding [v,ov,iv] (setItem ov iv v)
   release [v,ov,iv] []))
  (hs:swapsWithSole [.Tuple [.Subscript (.Name x pn) ix bY,.Subscript (.Name y Gu) Xx iH] kt pt] e pos.line X.env=pure false) (hw:swappedStores [.Tuple [.Subscript (.Name x pn) ix bY,.Subscript (.Name y Gu) Xx iH] kt pt] e X.env=pure none) :
  iu X z (.Assign [.Tuple [.Subscript (.Name x pn) ix bY,.Subscript (.Name y Gu) Xx iH] kt pt] e pos) g .nx (g3.set j (.own (l2.set m2 d2))):=by
 obtain⟨t,q,k⟩:=h;obtain⟨t2,q2,k2'⟩:=h2;obtain⟨t3,q3,k3⟩:=h3;refine⟨_,xJ q (xG (n:=2) hc (iB (xH (dF hN hv hd eF) q2 set_list ha) (iB (xH (dF R7 hv2 hd2 R8) q3 set_list ha2) sI rfl) rfl) rfl rfl) hs hw rfl,λY As M H E s kE=>k Y As M H _ s λv H1 aY M1 s1 dH R1=>?_⟩
 have R1':Rep z.K M1 H1 (.tup [d1,d2]) v:=R1;cases R1' with
 |@tup _ a xs ha rr=>
  cases rr with
  |@cons _ _ v1 _ r1 rr=>
   cases rr with
   |@cons _ _ v2 _ r2 rr=>
    cases rr;refine⟨a,_,rfl,hK▸ha.sq,rfl,v1,_,rfl,?_⟩;obtain⟨p,ys,e1,e2,e3,e4⟩:=s1.sl.at uM;refine⟨.ref p,e1,k2' Y aY M1 H1 _ s1 λw H2 bI M2 s2 aN R2=>?_⟩
    obtain⟨p',ys',f1,f2,f3,f4⟩:=s2.sl.at Xi;rw[e1]at f1;injection f1 with f1;injection f1 with f1;injection f1 with f1;subst f1;have R2':Rep z.K M2 H2 (.int n1) w:=R2;cases R2';refine⟨p,ys',n1,m1,rfl,rfl,f3,by rw[<- f4.length];exact hj,?_⟩
    obtain⟨s3,eK⟩:=s2.write Xi e1 (aI.set (Rep.stay aN r1) m1 f4);refine⟨v2,[],rfl,?_⟩;obtain⟨p2,zs,e5,e6,e7,e8⟩:=s3.sl.at hg3;refine⟨.ref p2,e5,k3 Y bI M2 _ _ s3 λw' H4 jC M4 s4 qG R4=>?_⟩
    obtain⟨p2',zs',f5,f6,f7,f8⟩:=s4.sl.at hg4;rw[e5]at f5;injection f5 with f5;injection f5 with f5;injection f5 with f5;subst f5;have R4':Rep z.K M4 H4 (.int n2) w':=R4;cases R4';refine⟨p2,zs',n2,m2,rfl,rfl,f7,by rw[<- f8.length];exact hj2,?_⟩
    obtain⟨s5,kT⟩:=s4.write hg4 e5 (aI.set (Rep.stay (aN.trans (eK.trans qG)) r2) m2 f8);exact⟨rfl,kE Y jC M4 _ s5 (dH.trans (aN.trans (eK.trans (qG.trans kT))))⟩
end
end Ev
namespace HT
open PySem PyProof.Rows
section
theorem ym(n:Nat):Builtin.Slice.sliceAdjust none none (-1) (n:Int)=((n:Int) - 1,-1):=rfl
theorem yp(n:Nat):Builtin.Slice.slicePlaces ((n:Int) - 1) (-1) (-1)=n:=by
 unfold Builtin.Slice.slicePlaces;rw[hU ⋯,show (- -1:Int)=1 from by decide,Int.ediv_one]
 split <;> lia
theorem lI{sl:Addr}{vs:Value}{n:Nat}{Q:Int×Int×Nat->Shared->Prop}(hs:s.heap.IsSliceOf sl .none .none vs)(ps:IsPart vs (some (-1)))
  (h:Q ((n:Int) - 1,-1,n) s):wpAny (model prog w) A (Builtin.Slice.sliceApplied (.ref sl) (pure (n:Int))) Q E s:=by
 obtain⟨os,hos,hcs,hds⟩:=id hs;unfold Builtin.Slice.sliceApplied Builtin.Slice.sliceFields;refine aS (aS (sB hos hds (x:=.none) rfl (aS (sB hos hds (x:=.none) rfl (aS (sB hos hds (x:=vs) rfl (d5 ?_)))))));refine aS (jw ps ?_);show wpAny _ _ (if ((-1:Int)==0)=true then _ else _) _ _ s
 rw[hU ⋯];refine aS (slicePart_none (aS (slicePart_none (aS (d5 ?_)))));show wpAny _ _ (match Builtin.Slice.sliceAdjust none none (-1) (n:Int)with | (lo,hi)=>pure (lo,(-1:Int),Builtin.Slice.slicePlaces lo hi (-1))) _ _ s
 rw[ym n];show wpAny _ _ (pure ((n:Int) - 1,(-1:Int),Builtin.Slice.slicePlaces ((n:Int) - 1) (-1) (-1))) _ _ s;rw[yp];exact d5 h
theorem Gv(xs:Array Value):((List.range xs.size).filterMap λ(m:Nat)=>xs[(((xs.size:Int) - 1)+(m:Int) * -1).toNat]?).toArray=xs.toList.reverse.toArray:=by
 have e:(λ(m:Nat)=>xs[(((xs.size:Int) - 1)+(m:Int) * -1).toNat]?)=λm=>xs[xs.size - 1 - m]?:=by
  funext m
  congr 1
  lia
 rw[e];have e2:(List.range xs.size).filterMap (λm=>xs[xs.size - 1 - m]?)=((List.range xs.size).map λk=>xs.size - 1 - k).filterMap (xs[·]?):=by rw[List.filterMap_map];rfl
 rw[e2,PySem.W.krv_range,List.filterMap_reverse,PySem.W.krv_all]
theorem j9(ht:IsTup s.heap t aj)(hs:s.heap.IsSliceOf sl .none .none vs)(ps:IsPart vs (some (-1)))
  (h:Q (.ref s⁻¹) { s with heap:=s.heap.push { cls:=.type "tuple",data:=.seq aj.toList.reverse.toArray}})
  (za:aj.size<=sizeLine):wpAny (model prog w) A (getItem (.ref t) (.ref sl)) Q E s:=by
 have jX:sizeOk (.seq aj.toList.reverse.toArray):=by show aj.toList.reverse.toArray.size<=sizeLine;rw[dC,AR,oD];exact za
 obtain⟨os,hos,hcs,hds⟩:=id hs;have WD:s.TypeIs (.ref sl) "slice" :=⟨os,hos,hcs⟩;unfold getItem
 try with_reducible refine lL ?_
 first |refine aS (d5 ?_) |skip
 refine aS (wpAny_sequenceKey ht.typeIs ⋯ ?_);refine aS (sR (name:=Str.ofString "__getitem__") ht.typeIs oC
  (vS oC ht.typeIs entry_tuple_getitem ?_ (args_tuple_getitem _ _)))
 show wpAny _ _ (Builtin.Tuple.tupleItemsOf (.ref t) >>= _) _ _ s;refine aS (tupleItemsOf_ ht ?_);refine aS (Co WD ?_);rw[fN ⋯];refine aS (lI hs ps ?_);show wpAny _ _ (if ((aj.size:Int) - 1==0&&(-1:Int)==1&&aj.size==aj.size)=true then _ else _) _ _ s
 rw[hU (by intro q;rw[dE,dE]at q;exact absurd (eq_of_beq q.1.2) ⋯),Gv]
 first
  |exact aS (m:=Builtin.Tuple.tupleExact _) (nK (d5 ⟨_,rfl,d5 h⟩) jX)
  |exact aS (m:=Builtin.Tuple.tupleExact _) (nK (aS (d5 (d5 ⟨_,rfl,d5 h⟩))) jX)
  |exact aS (aS (m:=Builtin.Tuple.tupleExact _) (nK (d5 (d5 ⟨_,rfl,d5 h⟩)) jX))
  |exact aS (aS (m:=Builtin.Tuple.tupleExact _) (nK (d5 ⟨_,rfl,d5 h⟩) jX))
end
end HT
namespace Ev
open L2
section
noncomputable abbrev m1(j:Nat)(p1 p3:Pos):Expr:=.UnaryOp .USub (.Constant (.int 1) j p1) p3
theorem Gw{e:Expr}{te:TE}{r:V->Hp->VK->Prop}(he:PE X e te)
  (hr:∀(L: ~~~1) (s:Shared) (Y:L2.St) (H:Hp) (x:V) (v vs:Value) (sl:Addr) (Q:VK),L2.Inv X L Y H s->RelV x v->s.heap.IsSliceOf sl .none .none vs->IsPart vs (some (-1))->r x H Q->
   ∃T id,typeLookup (.type T) "__getitem__"=pure (some (.builtin id))/\s.TypeIs v T/\wpAny (~~~2) X.A (getItem v (.ref sl)) (EP X L Y Q) X.xe s)
  (pm:∀(L: ~~~1) (s:Shared) (Y:L2.St) (H:Hp),L2.Inv X L Y H s->wpAny (~~~2) X.A (eval (m1 j p1 p3) X.env) (λu s'=>L2.Inv X L Y H s'/\IsPart u (some (-1))) X.xe s) :
  PE X (.Subscript e (.Slice none none (some (m1 j p1 p3)) p2) pos) (λY H Q=>te Y H λx H1=>r x H1 Q):=by
 intro L s Y H Q I h;refine Subscript_ (cz (he L s Y H _ I h) λv s1 ⟨x,H1,I1,r1,q1⟩=>?_)
 refine wpAny_Slice ?_;rw[evalPart_none];refine d5 (d5 ?_);refine PySem.evalPart_some_step (cz (pm L s1 Y H1 I1) λu s2 ⟨I2,pu⟩=>?_)
 have I4:L2.Inv X L Y H1 { s2 with heap:=s2.heap.push { cls:=.type "slice",data:=.fields #[.none,.none,u]}}:=I2.kept (t':=s2.toks) λb ob q=>b0 _ q
 obtain⟨T,id,hT,ht,hg⟩:=hr L { s2 with heap:=s2.heap.push { cls:=.type "slice",data:=.fields #[.none,.none,u]}} Y H1 x v u s2⁻¹ Q I4 r1 (Heap.IsSliceOf.new ..) pu q1;show wpAny (~~~2) X.A (subscriptTail e (.Slice none none (some (m1 j p1 p3)) p2) v (.ref s2⁻¹)) (EP X L Y Q) X.xe { s2 with heap:=s2.heap.push { cls:=.type "slice",data:=.fields #[.none,.none,u]}};exact tail_any (ops:=[v,.ref s2⁻¹]) ht hT hg (by with_unfolding_all rfl)
theorem pm1(L: ~~~1)(s:Shared)(Y:L2.St)(H:Hp)(I:L2.Inv X L Y H s):wpAny (~~~2) X.A (eval (m1 j p1 p3) X.env) (λu s'=>L2.Inv X L Y H s'/\IsPart u (some (-1))) X.xe s:=
 cz ((Od (pos:=p3) Ej (Ea (i:=1) (j:=j) (pos:=p1))) L s Y H (λv H'=>v=.int (-1)/\H'=H) I ⟨1,rfl,rfl,rfl⟩) λu s' ⟨v,H',I',r,e1,e2⟩=>by
  subst e1 e2;obtain⟨t,rfl⟩:=r;exact⟨I',.int _ t⟩
theorem Lv{r:R}{l:List D}(hK:z.K=X.K)(h:aA X z a g r g1)(hp:pk r g1=some (.lst l)):aA X z (.Subscript a (.Slice none none (some (m1 j p1 p3)) p2) pos) g (.new l.reverse) g1:=by
 obtain⟨t,q,k⟩:=h;refine⟨_,Gw (r:=λx H Q=>∃b xs,x=.ref b/\cB X.K H b xs/\∀p,H p=none->Q (.ref p) (upd H p (.lst xs.reverse))) q (λL s Y H x v vs sl Q I rx hs ps hx=>?_) pm1,λY As M H Q s kk=>k Y As M H _ s λv H1 aY M1 s1 dH R=>?_⟩
 .
  obtain⟨b,xs,rfl,hx,hq⟩:=hx;cases rx;obtain⟨its,r,ht,hz⟩:=I.list hx;have aL:=r.length;refine⟨"list",_,slot_list_getitem.lookup,ht.isList.typeIs,?_⟩;refine wpAny_getItem_list_slice ht.isList hs .none .none ps ⋯ ?_ (by rw[dC,<- aL];exact hz)
  rw[PySem.W.krv_pick];refine⟨.ref s⁻¹,_,I.laid (t':=s.toks) (o:=.lst xs.reverse) (λb ob q=>b0 _ q) (eD _) ?_,rfl,hq _ (I.hok.fresh (eD _))⟩
  exact⟨by rw[AR];exact hz,its.reverse,0,r.reverse,eJ _ rfl⟩
 .
  obtain⟨b,xs,rfl,e1,e2⟩:=(s1.pk (az.refl _ _) R hp).list;refine⟨b,xs,rfl,cB.of e1,λp hp=>?_⟩
  exact kk _ _ aY (p::M1) (s1.aV hp) (dH.trans (az.aV hp)) ⟨p,xs.reverse,rfl,c8,λhA=>s1.fresh hp (s1.sub p hA),s1.cH hp,aG,e2.reverse.stay (az.aV hp)⟩
theorem Lw{l:List D}(hK:z.K=X.K)(h:aA X z a g (.dat (.tup l)) g1):aA X z (.Subscript a (.Slice none none (some (m1 j p1 p3)) p2) pos) g (.dat (.tup l.reverse)) g1:=by
 obtain⟨t,q,k⟩:=h;refine⟨_,Gw (r:=λx H Q=>∃b xs,x=.ref b/\fV X.K H b xs/\∀p,H p=none->Q (.ref p) (upd H p (.tup xs.reverse))) q (λL s Y H x v vs sl Q I rx hs ps hx=>?_) pm1,λY As M H Q s kk=>k Y As M H _ s λv H1 aY M1 s1 dH R=>?_⟩
 .
  obtain⟨b,xs,rfl,hx,hq⟩:=hx;cases rx;obtain⟨its,r,ht,hz⟩:=I.tuple hx;have aL:=r.length;refine⟨"tuple",_,PyProof.Rows.slot_tuple_getitem.lookup,ht.typeIs,?_⟩;refine HT.j9 ht hs ps ?_ (by rw[dC,<- aL];exact hz)
  refine⟨.ref s⁻¹,_,I.laid (t':=s.toks) (o:=.tup xs.reverse) (λb ob q=>b0 _ q) (eD _) ?_,rfl,hq _ (I.hok.fresh (eD _))⟩
  exact⟨by rw[AR];exact hz,its.reverse,r.reverse,gi.new _ _⟩
 .
  cases R with
  |@tup _ b xs e1 e2=>exact⟨b,xs,rfl,hK▸e1.sq,λp hp=>kk _ _ aY M1 (s1.laid hp) (dH.trans (az.laid hp)) (.tup (.inl ⟨s1.fresh hp,.inl aG⟩) (e2.reverse.stay (az.laid hp)))⟩
end
open L2 PySem.W SeqAt
section
structure Vi(r tI tO i j a b:Addr):Prop where
 n1:tI≠r/\tO≠r/\i≠r/\j≠r/\a≠r/\b≠r
 n2:tI≠tO/\i≠tO/\j≠tO/\a≠tO/\b≠tO
 n3:tI≠i/\tI≠j/\i≠j
 n4:a≠i/\b≠i/\a≠j/\b≠j
section
theorem Gx{Q:Value->Shared->Prop}(N:Vi r tI tO i j a b)(D1:Draws prog w A i [i,a] n f S1)(D2:Draws prog w A j [j,b] m g S2)(hk1:k<n)(hk2:k<m)
  (er:IsZip s.heap r tI tO .none) (eI:IsPair s.heap tI (.ref i) (.ref j)) (eO:IsPair s.heap tO c d) (t1:S1 k s.heap) (t2:S2 k s.heap)
  (hQ:∀u v h' tk,f k u->g k v->IsZip h' r tI tO (rawInt s⁻¹)->IsPair h' tO u v->S1 (k+1) h'->S2 (k+1) h'->IsPair h' s⁻¹ u v->h'.objs.size=s⁻¹+1->
   (∀x o,x≠r->x≠tO->x≠i->x≠j->s.heap.get? x=some o->h'.get? x=some o)->Q (.ref s⁻¹) { s with heap:=h',toks:=tk}) :
  wpAny (model prog w) A (Builtin.«zip.__next__» ⟨[.ref r],[]⟩) (λfin s'=>∃v,fin=.done (.ret v)/\Q v s') E s:=by
 obtain⟨⟨p1,p2,p3,p4,p5,p6⟩,⟨q1,q2,q3,q4,q5⟩,⟨u1,u2,u3⟩,⟨v1,v2,v3,v4⟩⟩:=N;refine aS (m:=field (.ref r) 2) (sB er rfl (x:=.bool false) rfl ?_);refine aS (m:=field (.ref r) 3) (sB er rfl (x:=.ref tI) rfl (aS (tS eI rfl ?_)));refine aS (m:=Builtin.SmallTypes.ownedTupleIsFree (.ref r)) ?_;unfold Builtin.SmallTypes.ownedTupleIsFree;refine aS (sB er rfl (x:=.none) rfl (d5 ?_));simp only[yA];refine aS (C1 (aS (sB er rfl (x:=.ref tO) rfl (aS (AH er ⋯ λha Jv ka=>?_)))))
 replace Jv:IsZip ha r tI tO .ellipsis:=Jv;refine aS ?_;simp only[List.zipIdx_cons,List.zipIdx_nil,List.forIn_cons,List.forIn_nil];have ZD:S1 k ha:=D1.frame k _ _ t1 λx hx o e=>(ka.2 x (by rcases d6.mp hx with z |z;exact z▸p3;exact (eP.mp z)▸p5)).trans e
 have t2a:S2 k ha:=D2.frame k _ _ t2 λx hx o e=>(ka.2 x (by rcases d6.mp hx with z |z;exact z▸p4;exact (eP.mp z)▸p6)).trans e
 refine aS (aS (C0 (aS (m:=Builtin.SmallTypes.nextOf (.ref i)) (D1.item k { s with heap:=ha} _ _ hk1 ZD λu hb Lx fu t1b kb=>d5 ?_))))
 have kb:Heap.SameBut i ha hb:=kb;have Xy:IsPair hb tO c d:=(kb.2 _ (oQ q2)).trans ((ka.2 _ p2).trans eO);refine aS (tS (s:={ s with heap:=hb,toks:=Lx}) Xy rfl (aS (wpAny_updateSeq_pair (s:={ s with heap:=hb,toks:=Lx}) Xy λhc ZF kc=>?_)))
 replace ZF:IsPair hc tO u d:=ZF;have kc:Heap.SameBut tO hb hc:=kc;refine aS (B9 (d5 ?_));have t1c:S1 (k+1) hc:=D1.frame _ _ _ t1b λx hx o e=>(kc.2 x (by rcases d6.mp hx with z |z;exact z▸q2;exact (eP.mp z)▸q4)).trans e
 have t2c:S2 k hc:=D2.frame k _ _ t2a λx hx o e=>by
  have hx:x=j\/x=b:=by rcases d6.mp hx with z |z;exact .inl z;exact .inr (eP.mp z)
  rw[kc.2 x (by rcases hx with rfl |rfl;exact q3;exact q5),kb.2 x (by rcases hx with rfl |rfl;exact oQ u3;exact v2)]
  exact e
 refine aS (aS (C0 (aS (m:=Builtin.SmallTypes.nextOf (.ref j)) (D2.item k { s with heap:=hc,toks:=Lx} _ _ hk2 t2c λv hd ZG gv t2d kd=>d5 ?_))))
 have kd:Heap.SameBut j hc hd:=kd;have eOd:IsPair hd tO u d:=(kd.2 _ (oQ q3)).trans ZF;refine aS (tS (s:={ s with heap:=hd,toks:=ZG}) eOd rfl (aS (wpAny_updateSeq_pair (s:={ s with heap:=hd,toks:=ZG}) eOd λhe ZJ ke=>?_)))
 replace ZJ:IsPair he tO u v:=ZJ;have ke:Heap.SameBut tO hd he:=ke;refine aS (B9 (d5 (d5 ?_)));refine aS (tS (s:={ s with heap:=he,toks:=ZG}) ZJ rfl (aS (wpAny_newTuple ?_)));have sz:he.objs.size=s⁻¹:=by rw[ke.1,kd.1,kc.1,kb.1];exact ka.1
 have ere:IsZip he r tI tO .ellipsis:=by show he.get? r=_;rw[ke.2 _ (oQ p2),kd.2 _ (oQ p4),kc.2 _ (oQ p2),kb.2 _ (oQ p3)];exact Jv
 have old:∀x o,x≠r->x≠tO->x≠i->x≠j->s.heap.get? x=some o->he.get? x=some o:=λx o x1 x2 x3 x4 e=>by
  rw[ke.2 _ x2,kd.2 _ x4,kc.2 _ x2,kb.2 _ x3];exact (ka.2 _ x1).trans e
 have t1e:S1 (k+1) he:=D1.frame _ _ _ t1c λx hx o e=>by
  have hx:x=i\/x=a:=by rcases d6.mp hx with z |z;exact .inl z;exact .inr (eP.mp z)
  rw[ke.2 x (by rcases hx with rfl |rfl;exact q2;exact q4),kd.2 x (by rcases hx with rfl |rfl;exact u3;exact v3)]
  exact e
 have t2e:S2 (k+1) he:=D2.frame _ _ _ t2d λx hx o e=>(ke.2 x (by rcases d6.mp hx with z |z;exact z▸q3;exact (eP.mp z)▸q5)).trans e
 refine aS (m:=Builtin.SmallTypes.ownedTupleHandOut (.ref r) (.ref he.objs.size)) ?_;unfold Builtin.SmallTypes.ownedTupleHandOut;have erf:IsZip (he.push { cls:=.type "tuple",data:=.seq #[u,v]}) r tI tO .ellipsis:=b0 _ ere;refine aS (AH erf ⋯ λhg erg kg=>?_)
 replace erg:IsZip hg r tI tO (rawInt he.objs.size):=erg;refine AH erg ⋯ λhh ZK kh=>?_
 replace ZK:IsZip hh r tI tO (rawInt he.objs.size):=ZK;have kg:Heap.SameBut r (he.push { cls:=.type "tuple",data:=.seq #[u,v]}) hg:=kg;have kh:Heap.SameBut r hg hh:=kh;have up:∀x o,x≠r->he.get? x=some o->hh.get? x=some o:=λx o x1 e=>by rw[kh.2 _ x1,kg.2 _ x1];exact b0 _ e
 have rlt:r<he.objs.size:=eR ere;have new:IsPair hh he.objs.size u v:=by show hh.get? _=_;rw[kh.2 _ (Cn rlt),kg.2 _ (Cn rlt)];exact eJ _ rfl
 have szh:hh.objs.size=he.objs.size+1:=by rw[kh.1,kg.1,mM]
 have fr1:∀x o,x=i\/x=a->he.get? x=some o->hh.get? x=some o:=λx o hx e=>up x o (by rcases hx with rfl |rfl;exact p3;exact p5) e
 have fr2:∀x o,x=j\/x=b->he.get? x=some o->hh.get? x=some o:=λx o hx e=>up x o (by rcases hx with rfl |rfl;exact p4;exact p6) e
 rw[sz]at ZK new szh;refine d5 ⟨_,rfl,?_⟩;show Q (.ref he.objs.size) _;rw[sz];exact hQ u v hh ZG fu gv ZK (up _ _ p2 ZJ) (D1.frame _ _ _ t1e λx hx o e=>fr1 x o (by rcases d6.mp hx with z |z;exact .inl z;exact .inr (eP.mp z)) e)
  (D2.frame _ _ _ t2e λx hx o e=>fr2 x o (by rcases d6.mp hx with z |z;exact .inl z;exact .inr (eP.mp z)) e) new szh λx o x1 x2 x3 x4 e=>up x o x1 (old x o x1 x2 x3 x4 e)
theorem Ly(N:Vi r tI tO i j a b)(D1:Draws prog w A i [i,a] n f S1)(D2:Draws prog w A j [j,b] m g S2)(hk:k=n\/(k<n/\k=m))
  (er:IsZip s.heap r tI tO .none) (eI:IsPair s.heap tI (.ref i) (.ref j)) (eO:IsPair s.heap tO c d) (t1:S1 k s.heap) (t2:S2 k s.heap)
  (hE:∀h' e tk,(∀x o,x≠r->x≠tO->x≠i->x≠j->s.heap.get? x=some o->h'.get? x=some o)->(∃o,h'.get? e=some o/\o.cls=.type "StopIteration")->E (.ref e) { s with heap:=h',toks:=tk}) :
  wpAny (model prog w) A (Builtin.«zip.__next__» ⟨[.ref r],[]⟩) Q E s:=by
 obtain⟨⟨p1,p2,p3,p4,p5,p6⟩,⟨q1,q2,q3,q4,q5⟩,⟨u1,u2,u3⟩,⟨v1,v2,v3,v4⟩⟩:=N;refine aS (m:=field (.ref r) 2) (sB er rfl (x:=.bool false) rfl ?_);refine aS (m:=field (.ref r) 3) (sB er rfl (x:=.ref tI) rfl (aS (tS eI rfl ?_)));refine aS (m:=Builtin.SmallTypes.ownedTupleIsFree (.ref r)) ?_;unfold Builtin.SmallTypes.ownedTupleIsFree;refine aS (sB er rfl (x:=.none) rfl (d5 ?_));simp only[yA];refine aS (C1 (aS (sB er rfl (x:=.ref tO) rfl (aS (AH er ⋯ λha Jv ka=>?_)))))
 replace Jv:IsZip ha r tI tO .ellipsis:=Jv;refine aS ?_;simp only[List.zipIdx_cons,List.zipIdx_nil,List.forIn_cons,List.forIn_nil];have ZD:S1 k ha:=D1.frame k _ _ t1 λx hx o e=>(ka.2 x (by rcases d6.mp hx with z |z;exact z▸p3;exact (eP.mp z)▸p5)).trans e
 have t2a:S2 k ha:=D2.frame k _ _ t2 λx hx o e=>(ka.2 x (by rcases d6.mp hx with z |z;exact z▸p4;exact (eP.mp z)▸p6)).trans e
 have stop:∀(hb:Heap) (e:Addr) (tk:Nat),IsZip hb r tI tO .ellipsis->(∃o,hb.get? e=some o/\o.cls=.type "StopIteration")->e≠r:=λhb e tk z ⟨o,h1,h2⟩ q=>by
  rw[q,z]at h1;cases h1;exact absurd (show Value.type "zip"=.type "StopIteration" from h2) ⋯
 rcases hk with rfl |⟨hk1,rfl⟩
 .
  refine aS (aS (C0 (aS (m:=Builtin.SmallTypes.nextOf (.ref i)) (D1.done { s with heap:=ha} _ _ ZD λhb e kb ex=>?_))))
  have kb:Heap.ExtBut i ha hb:=kb;have erb:IsZip hb r tI tO .ellipsis:=kb _ _ (oQ p3) Jv;have ner:=stop hb e s.toks erb ex;obtain⟨oe,x1,x2⟩:=ex;refine AH (s:={ s with heap:=hb}) erb ⋯ λhc _ kc=>?_
  have kc:Heap.SameBut r hb hc:=kc;exact hE hc e s.toks (λx o y1 y2 y3 y4 z=>(kc.2 _ y1).trans (kb _ _ y3 ((ka.2 _ y1).trans z))) ⟨oe,(kc.2 _ ner).trans x1,x2⟩
 .
  refine aS (aS (C0 (aS (m:=Builtin.SmallTypes.nextOf (.ref i)) (D1.item k { s with heap:=ha} _ _ hk1 ZD λu hb Lx fu t1b kb=>d5 ?_))))
  have kb:Heap.SameBut i ha hb:=kb;have Xy:IsPair hb tO c d:=(kb.2 _ (oQ q2)).trans ((ka.2 _ p2).trans eO);refine aS (tS (s:={ s with heap:=hb,toks:=Lx}) Xy rfl (aS (wpAny_updateSeq_pair (s:={ s with heap:=hb,toks:=Lx}) Xy λhc ZF kc=>?_)))
  have kc:Heap.SameBut tO hb hc:=kc;refine aS (B9 (d5 ?_));have t2c:S2 k hc:=D2.frame k _ _ t2a λx hx o e=>by
   have hx:x=j\/x=b:=by rcases d6.mp hx with z |z;exact .inl z;exact .inr (eP.mp z)
   rw[kc.2 x (by rcases hx with rfl |rfl;exact q3;exact q5),kb.2 x (by rcases hx with rfl |rfl;exact oQ u3;exact v2)]
   exact e
  refine aS (aS (C0 (aS (m:=Builtin.SmallTypes.nextOf (.ref j)) (D2.done { s with heap:=hc,toks:=Lx} _ _ t2c λhd e kd ex=>?_))))
  have kd:Heap.ExtBut j hc hd:=kd;have erd:IsZip hd r tI tO .ellipsis:=kd _ _ (oQ p4) (by rw[kc.2 _ (oQ p2),kb.2 _ (oQ p3)];exact Jv)
  have ner:=stop hd e s.toks erd ex;obtain⟨oe,x1,x2⟩:=ex;refine AH (s:={ s with heap:=hd,toks:=Lx}) erd ⋯ λhe _ ke=>?_
  have ke:Heap.SameBut r hd he:=ke;exact hE he e Lx (λx o y1 y2 y3 y4 z=>(ke.2 _ y1).trans (kd _ _ y4 (by rw[kc.2 _ y2,kb.2 _ y3];exact (ka.2 _ y1).trans z))) ⟨oe,(ke.2 _ ner).trans x1,x2⟩
end
section
theorem Gy{Q:Option Value->Shared->Prop}(N:Vi r tI tO i j a b)(D1:Draws prog w A.in1 i [i,a] n f S1)(D2:Draws prog w A.in1 j [j,b] m g S2)(hk1:k<n)(hk2:k<m)
  (er:IsZip s.heap r tI tO .none) (eI:IsPair s.heap tI (.ref i) (.ref j)) (eO:IsPair s.heap tO c d) (t1:S1 k s.heap) (t2:S2 k s.heap)
  (hQ:∀u v h' tk,f k u->g k v->IsZip h' r tI tO (rawInt s⁻¹)->IsPair h' tO u v->S1 (k+1) h'->S2 (k+1) h'->IsPair h' s⁻¹ u v->h'.objs.size=s⁻¹+1->
   (∀x o,x≠r->x≠tO->x≠i->x≠j->s.heap.get? x=some o->h'.get? x=some o)->Q (some (.ref s⁻¹)) { s with heap:=h',toks:=tk}):wpAny (model prog w) A (pyNext (.ref r)) Q E s:=by
 have ty:s.TypeIs (.ref r) "zip" :=⟨_,er,rfl⟩;unfold pyNext;exact aS (wpAny_attempt (sR (name:=Str.ofString "__next__") ty F.slot_zip_next (vS F.slot_zip_next ty F.entry_zip_next
  (Gx N D1 D2 hk1 hk2 er eI eO t1 t2 λu v h' tk b1 b2 b3 b4 b5 b6 b7 b8 b9=>d5 (hQ u v h' tk b1 b2 b3 b4 b5 b6 b7 b8 b9)) (F.args_zip_next_1 _))))
theorem vO(N:Vi r tI tO i j a b)(D1:Draws prog w A.in1 i [i,a] n f S1)(D2:Draws prog w A.in1 j [j,b] m g S2)(hk:k=n\/(k<n/\k=m))
  (er:IsZip s.heap r tI tO .none) (eI:IsPair s.heap tI (.ref i) (.ref j)) (eO:IsPair s.heap tO c d) (t1:S1 k s.heap) (t2:S2 k s.heap)
  (hQ:∀h' tk,(∀x o,x≠r->x≠tO->x≠i->x≠j->s.heap.get? x=some o->h'.get? x=some o)->Q none { s with heap:=h',toks:=tk}):wpAny (model prog w) A (pyNext (.ref r)) Q E s:=by
 have ty:s.TypeIs (.ref r) "zip" :=⟨_,er,rfl⟩;unfold pyNext;refine aS (wpAny_attempt (sR (name:=Str.ofString "__next__") ty F.slot_zip_next (vS F.slot_zip_next ty F.entry_zip_next
  (Ly N D1 D2 hk er eI eO t1 t2 λh' e tk kp ex=>?_) (F.args_zip_next_1 _))))
 obtain⟨o,x1,x2⟩:=ex;exact aS (wpAny_isInstance (T:= "StopIteration") (b:=true) ⟨o,x1,x2⟩ isSubtype_stop (d5 (hQ _ tk kp)))
end
end
open L2 PySem.W SeqAt
section
theorem Inv.R9{h':Heap}{t':Nat}{ch:List Addr}(I:L2.Inv X L Y H s)(hf:∀b∈ch,jV X L H b)(k:∀b o,b∉ch->s.heap.get? b=some o->h'.get? b=some o):L2.Inv X L Y H { s with heap:=h',toks:=t'}:=by
 have nH:∀b u,H b=some u->b∉ch:=λb u e z=>by rw[(hf b z).1]at e;cases e
 refine I.step (g':=s.gens) (d':=s.drawn) (ch:=ch) (λb hb=>?_) (λb o _ _ hc e _=>k b o hc e) (λb o _ _ hc e _=>⟨o.slots,k b o hc e⟩) (λ_ _ _ _ n=>n) (λb o hc e=>⟨o,k b o hc e⟩) (λ_ _ e=>e) (λ_ _ _ e=>e) (λb ps e=>⟨#[],by rw[e];simp⟩) (λm hm=>?_) (λb u e=>?_) I.bare
 . obtain⟨f0,f1,f2,f3,f4,f5⟩:=hf b hb;exact⟨f3,f1,f4,f5⟩
 . obtain⟨o,es,ep,ho,rr⟩:=hm;exact⟨o,es,ep,k _ o (λz=>(hf _ z).2.1 rfl) ho,rr⟩
 .
  refine (I.hok b u e).stay (λc w hc q=>k c w (λz=>?_) q) (λ_ q=>q) λ_ _ q=>q
  rcases hc with rfl |hc
  . exact nH _ _ e z
  . exact nH _ _ hc z
theorem Inv.Sd{h':Heap}{t':Nat}{ch:List Addr}{xs:List V}{its:List Value}(I:L2.Inv X L Y H s)(hf:∀b∈ch,jV X L H b)(k:∀b o,b∉ch->s.heap.get? b=some o->h'.get? b=some o)(hz:xs.length<=sizeLine)(rv:Vals xs its)(ht:gi h' s⁻¹ its.toArray) :
  L2.Inv X L Y (upd H s⁻¹ (.tup xs)) { s with heap:=h',toks:=t'}:=by
 have nH:∀b u,H b=some u->b∉ch:=λb u e z=>by rw[(hf b z).1]at e;cases e
 have fr:H s⁻¹=none:=I.hok.fresh (eD _);have nn:∀b u,H b=some u->b≠s⁻¹:=λb u e z=>by rw[z,fr]at e;cases e
 refine I.step (g':=s.gens) (d':=s.drawn) (ch:=ch) (λb hb=>?_) (λb o _ _ hc e _=>k b o hc e) (λb o _ _ hc e _=>⟨o.slots,k b o hc e⟩) (λb o _ e n=>by rw[aC (l4 (eR e))];exact n) (λb o hc e=>⟨o,k b o hc e⟩) (λb _ e=>by rw[aC (nn _ _ e)];exact e) (λb _ _ e=>by rw[aC (nn _ _ e)];exact e) (λb ps e=>⟨#[],by rw[aC (nn _ _ e),e];simp⟩) (λm hm=>?_) (λb u e=>?_) I.bare
 . obtain⟨f0,f1,f2,f3,f4,f5⟩:=hf b hb;exact⟨f3,f1,f4,f5⟩
 . obtain⟨o,es,ep,ho,rr⟩:=hm;exact⟨o,es,ep,k _ o (λz=>(hf _ z).2.1 rfl) ho,rr⟩
 .
  by_cases hb:b=s⁻¹
  . subst hb;rw[aG]at e;cases e;exact⟨hz,its,rv,ht⟩
  .
   rw[aC hb]at e;refine (I.hok b u e).stay (λc w hc q=>k c w (λz=>?_) q) (λc q=>by rw[aC (nn _ _ q)];exact q) λc _ q=>by rw[aC (nn _ _ q)];exact q
   rcases hc with rfl |hc
   . exact nH _ _ e z
   . exact nH _ _ hc z
end
theorem nU.Ou(I:L2.Inv X L Y H s)(h:nU tp X.K H u us)(f:jV X L H c):u≠c:=λz=>by
 subst z;have inK:∀o,X.K.lookup u=some o->False:=λo e=>by
  have e0:=I.ok.mod.Zk u o e;rcases f.2.2.2.1 with q |q
  . exact I.ok.xE u o e0 q
  . exact absurd (fA (eR (I.ok.bs u o e0).1) q) (mP _)
 cases tp with
 |true=>
  rcases (show fV X.K H u us from h)with (h |⟨o,h⟩) |h
  . rw[f.1]at h;symm
  . rw[f.1]at h;symm
  . obtain⟨o,_,_,h,_⟩:=h;exact inK _ h
 |false=>
  rcases (show cB X.K H u us from h)with (h |⟨o,h⟩) |h
  . rw[f.1]at h;symm
  . rw[f.1]at h;symm
  . obtain⟨o,_,_,h,_⟩:=h;exact inK _ h
noncomputable def Itz(tp:Bool)(K:Frag)(a b:Addr):It:=
 ⟨λi H=>∃xs ys x y,nU tp K H a xs/\nU tp K H b ys/\xs[i]?=some x/\ys[i]?=some y,λi H x H'=>∃p u v,(∀xs,nU tp K H a xs->xs[i]?=some u)/\(∀ys,nU tp K H b ys->ys[i]?=some v)/\H p=none/\x=.ref p/\H'=upd H p (.tup [u,v]),
  λi H=>∃xs ys,nU tp K H a xs/\nU tp K H b ys/\(i=xs.length\/(i<xs.length/\i=ys.length))⟩
theorem Gz{P:Program}{w:World}{K:Frag}{tp:Bool}{es:List Expr}{k:Nat}{pos:Pos}(r tI tO i j a b:Addr)(A1:tI≠r/\tO≠r/\i≠r/\j≠r)(A2:tI≠tO/\i≠tO/\j≠tO)(A3:tI≠i/\tI≠j/\i≠j) :
  Turn P w K (.Tuple es k pos) (Itz tp K a b) [r,tI,tO,i,j] r (λn h=>IsZip h r tI tO .none/\IsPair h tI (.ref i) (.ref j)/\(∃c d,IsPair h tO c d)/\DK tp h i a n/\DK tp h j b n) where
 mem:=by simp
 obj:=λn h st x hx=>by
  obtain⟨er,eI,⟨c,d,eO⟩,t1,t2⟩:=st;simp only[d6,kS,yB]at hx;rcases hx with rfl |rfl |rfl |rfl |rfl
  . exact⟨_,er,λv z=>nomatch (show Data.fields _=Data.cell v from z)⟩
  . exact⟨_,eI,λv z=>nomatch (show Data.seq _ _=Data.cell v from z)⟩
  . exact⟨_,eO,λv z=>nomatch (show Data.seq _ _=Data.cell v from z)⟩
  . obtain⟨o,vs,e1,e2⟩:=t1.obj;exact⟨o,e1,λv z=>by rw[e2]at z;cases z⟩
  . obtain⟨o,vs,e1,e2⟩:=t2.obj;exact⟨o,e1,λv z=>by rw[e2]at z;cases z⟩
 keep:=λn h h' st kp=>by
  obtain⟨er,eI,⟨c,d,eO⟩,t1,t2⟩:=st;exact⟨kp r ⋯ _ er,kp tI ⋯ _ eI,⟨c,d,kp tO ⋯ _ eO⟩,t1.keep λo q=>kp i ⋯ o q,t2.keep λo q=>kp j ⋯ o q⟩
 item:=by
  intro X hP hw hK hc n L s Y H E I hf st hg;subst hP hw hK;obtain⟨er,eI,⟨c,d,eO⟩,t1,t2⟩:=st;obtain⟨xs,ys,x,y,qx,qy,gx,gy⟩:=hg;obtain⟨Xz,rx,XC,zx⟩:=qx.real I;obtain⟨XD,ry,XF,zy⟩:=qy.real I;have nf:∀{u:Addr}{us:List V}{c:Addr},nU tp X.K H u us->c∈[r,tI,tO,i,j]->u≠c:=λh hc=>nU.Ou I h (hf _ hc)
  have N:Vi r tI tO i j a b:=⟨⟨A1.1,A1.2.1,A1.2.2.1,A1.2.2.2,nf qx ⋯,nf qy ⋯⟩,⟨A2.1,A2.2.1,A2.2.2,nf qx ⋯,nf qy ⋯⟩,A3,⟨nf qx ⋯,nf qy ⋯,nf qx ⋯,nf qy ⋯⟩⟩;have l1:n<Xz.length:=by rw[<- rx.length];exact (dA.mp gx).1
  have l2:n<XD.length:=by rw[<- ry.length];exact (dA.mp gy).1
  refine Gy (A:=X.A) N (lH (tp:=tp) (A:=X.A.in1) (I.ok.hd hc) (nf qx ⋯) Xz) (lH (tp:=tp) (A:=X.A.in1) (I.ok.hd hc) (nf qy ⋯) XD) l1 l2 er eI eO ⟨t1,XC⟩ ⟨t2,XF⟩ λu v h1 tk fu gv Jv eO1 s1 s2 new sz kp=>⟨_,rfl,?_⟩
  refine wpAny_letOwnedTupleGo_zip (s:={ s with heap:=h1,toks:=tk}) Jv λh2 er2 k2=>?_
  have k2:Heap.SameBut r h1 h2:=k2;obtain⟨u',e1,ru⟩:=rx.get gx;obtain⟨v',e2,rv⟩:=ry.get gy;rw[fu]at e1;cases e1;rw[gv]at e2;cases e2;have pr:s⁻¹≠r:=Cn (eR er);have kk:∀x o,x∉[r,tO,i,j]->s.heap.get? x=some o->h2.get? x=some o:=λx o hx e=>by
   simp only[d6,kS,yB,not_or]at hx;exact (k2.2 x hx.1).trans (kp x o hx.1 hx.2.1 hx.2.2.1 hx.2.2.2 e)
  have J:=Inv.Sd (t':=tk) (xs:=[x,y]) (its:=[u,v]) I (ch:=[r,tO,i,j]) (λc hc=>hf c (by simp only[d6,kS,yB]at hc ⊢;rcases hc with h |h |h |h <;> simp[h])) kk (by rw[nS];show 2<=16777216;decide) (.cons ru (.cons rv .nil)) ⟨_,(k2.2 _ pr).trans new,⟨rfl,_,rfl⟩,rfl⟩
  have eI2:IsPair h2 tI (.ref i) (.ref j):=kk _ _ (by simp[A1.1,A2.1,A3.1,A3.2.1]) eI
  refine⟨.ref s⁻¹,_,J,rfl,⟨_,x,y,λzs hz=>by rw[hz.inj I qx];exact gx,λzs hz=>by rw[hz.inj I qy];exact gy,I.hok.fresh (eD _),rfl,rfl⟩,⟨er2,eI2,⟨u,v,(k2.2 _ A1.2.1).trans eO1⟩,s1.1.keep λo q=>(k2.2 _ A1.2.2.1).trans q,s2.1.keep λo q=>(k2.2 _ A1.2.2.2).trans q⟩,λc hc=>?_⟩
  have hcn:c≠s⁻¹:=λz=>by
   have:∃o,s.heap.get? c=some o:=by
    simp only[d6,kS,yB]at hc;rcases hc with rfl |rfl |rfl |rfl |rfl
    . exact⟨_,er⟩
    . exact⟨_,eI⟩
    . exact⟨_,eO⟩
    . obtain⟨o,_,e,_⟩:=t1.obj;exact⟨o,e⟩
    . obtain⟨o,_,e,_⟩:=t2.obj;exact⟨o,e⟩
   obtain⟨o,e⟩:=this;exact absurd (eR e) (by rw[z];exact mP _)
  rw[aC hcn];exact (hf c hc).1
 done:=by
  intro X hP hw hK hc n L s Y H E I hf st hg;subst hP hw hK;obtain⟨er,eI,⟨c,d,eO⟩,t1,t2⟩:=st;obtain⟨xs,ys,qx,qy,hn⟩:=hg;obtain⟨Xz,rx,XC,zx⟩:=qx.real I;obtain⟨XD,ry,XF,zy⟩:=qy.real I;have nf:∀{u:Addr}{us:List V}{c:Addr},nU tp X.K H u us->c∈[r,tI,tO,i,j]->u≠c:=λh hc=>nU.Ou I h (hf _ hc)
  have N:Vi r tI tO i j a b:=⟨⟨A1.1,A1.2.1,A1.2.2.1,A1.2.2.2,nf qx ⋯,nf qy ⋯⟩,⟨A2.1,A2.2.1,A2.2.2,nf qx ⋯,nf qy ⋯⟩,A3,⟨nf qx ⋯,nf qy ⋯,nf qx ⋯,nf qy ⋯⟩⟩;refine vO (A:=X.A) N (lH (tp:=tp) (A:=X.A.in1) (I.ok.hd hc) (nf qx ⋯) Xz) (lH (tp:=tp) (A:=X.A.in1) (I.ok.hd hc) (nf qy ⋯) XD) (by rw[<- rx.length,<- ry.length];exact hn) er eI eO ⟨t1,XC⟩ ⟨t2,XF⟩ λh1 tk kp=>⟨rfl,?_⟩
  exact Inv.R9 (t':=tk) I (ch:=[r,tO,i,j]) (λc hc=>hf c (by simp only[d6,kS,yB]at hc ⊢;rcases hc with h |h |h |h <;> simp[h])) λx o hx e=>by
   simp only[d6,kS,yB,not_or]at hx;exact kp x o hx.1 hx.2.1 hx.2.2.1 hx.2.2.2 e
 self:=λA n s Q E st h=>wpAny_pyIter_zip st.1 h
open L2 PySem.W SeqAt
section
noncomputable abbrev XH(h:Heap)(a:Addr):Heap:=h.push { cls:=.type "tuple_iterator",data:=.fields #[.ref a,.int 0 0]}
abbrev ZL(h:Heap)(a b:Addr):Heap:=(XH h a).push { cls:=.type "tuple_iterator",data:=.fields #[.ref b,.int 0 0]}
abbrev ZM(h:Heap)(a b:Addr):Heap:=(ZL h a b).push { cls:=.type "tuple",data:=.seq #[.ref h.objs.size,.ref (XH h a).objs.size]}
abbrev ZN(h:Heap)(a b:Addr):Heap:=(ZM h a b).push { cls:=.type "tuple",data:=.seq #[.none,.none]}
abbrev Vj (h:Heap) (a b:Addr):Heap:=(ZN h a b).push { cls:=.type "zip",data:=.fields #[.none,.bool false,.bool false,.ref (ZL h a b).objs.size,.ref (ZM h a b).objs.size]}
theorem yq(a b:Addr)(xs ys:Array Value) :
  Meets (Builtin.«zip.__new__» ⟨[.type "zip",.ref a,.ref b],[]⟩) (λ_ R s=>s.heap.IsTuple a xs/\s.heap.IsTuple b ys/\R (.ok (.ret (.ref (ZN s.heap a b).objs.size))) { s with heap:=Vj s.heap a b}):=
 .of_wp λprog w A R s h=>by
  obtain⟨hp,g,d,tk,os⟩:=s;obtain⟨ta,tb,h⟩:=h;have hsub:=sub_zip;have T1:Heap.IsTuple (Shared.heap ⟨hp,g,d,tk,os⟩) a xs:=ta;have T2:Heap.IsTuple (Shared.heap ⟨XH hp a,g,d,tk,os⟩) b ys:=by obtain⟨o,e,rr⟩:=tb;exact⟨o,b0 _ e,rr⟩
  wp_walk using t7 T1,t7 T2
  exact⟨_,rfl,h⟩
theorem Cp(ta:s.heap.IsTuple a xs)(tb:s.heap.IsTuple b ys)
  (h:∀h',IsZip h' (s⁻¹+4) (s⁻¹+2) (s⁻¹+3) .none->IsPair h' (s⁻¹+2) (.ref s⁻¹) (.ref (s⁻¹+1))->
   IsPair h' (s⁻¹+3) .none .none->h'.IsTupleIter s⁻¹ a 0->h'.IsTupleIter (s⁻¹+1) b 0->h'.objs.size=s⁻¹+5->
   (∀c o,s.heap.get? c=some o->h'.get? c=some o)->Q (.ref (s⁻¹+4)) { s with heap:=h'}) :
  wpAny (model prog w) A (call (.type "zip") [.ref a,.ref b]) Q E s:=by
 refine callType_new F.called_zip ⋯ (F.typeCall_zip_2 _ _) (F.newCall_zip_2 _ _) (λobj=>F.args_object_init_3 obj _ _) F.entry_zip_new (yq a b xs ys) ⟨ta,tb,?_⟩
 have s1:(XH s.heap a).objs.size=s⁻¹+1:=mM ..;have s2:(ZL s.heap a b).objs.size=s⁻¹+2:=by rw[mM,s1]
 have s3:(ZM s.heap a b).objs.size=s⁻¹+3:=by rw[mM,s2]
 have s4:(ZN s.heap a b).objs.size=s⁻¹+4:=by rw[mM,s3]
 have o5:(Vj s.heap a b).get? (ZN s.heap a b).objs.size=some _:=eJ _ rfl;have o4:(Vj s.heap a b).get? (ZM s.heap a b).objs.size=some _:=b0 _ (eJ _ rfl);have o3:(Vj s.heap a b).get? (ZL s.heap a b).objs.size=some _:=b0 _ (b0 _ (eJ _ rfl));have o2:(Vj s.heap a b).get? (XH s.heap a).objs.size=some _:=b0 _ (b0 _ (b0 _ (eJ _ rfl)));have o1:(Vj s.heap a b).get? s⁻¹=some _:=b0 _ (b0 _ (b0 _ (b0 _ (eJ _ rfl))));show _/\_;rw[s4]at o5 ⊢
 rw[s2,s3]at o5;rw[s2,s1]at o3;rw[s3]at o4;rw[s1]at o2;exact⟨⟨_,o5,rfl⟩,h _ o5 o3 o4 ⟨_,o1,rfl,rfl⟩ ⟨_,o2,rfl,rfl⟩ (by rw[mM,s4]) λc o e=>b0 _ (b0 _ (b0 _ (b0 _ (b0 _ e))))⟩
end
noncomputable def vP(l m:List D):List D:=(l.zip m).map λp=>.tup [p.1,p.2]
theorem GC{l m:List D}{n:Nat}{d:D}(h:(vP l m)[n]?=some d):∃x y,l[n]?=some x/\m[n]?=some y/\d=.tup [x,y]:=by
 unfold vP at h;rw[tJ]at h;cases e:(l.zip m)[n]? with
 |none=>rw[e]at h;symm
 |some q=>rw[e]at h;symm;obtain⟨h1,h2⟩:=List.getElem?_zip_eq_some.mp e;exact⟨q.1,q.2,h1,h2,rfl⟩
theorem GD(l m:List D):(vP l m).length=min l.length m.length:=by simp[vP]
section
def isTup:D->Bool
 |.tup _=>true
 |_=>false
theorem Rep.sqX{K:Frag}{M:List Addr}{H:Hp}{d:D}{v:V}{l:List D}(r:Rep K M H d v)(h:bx d=some l):∃a xs,v=.ref a/\aI K M H l xs/\∀M2 H2,az M H M2 H2->nU (isTup d) K H2 a xs:=by
 cases r with
 |@lst _ a xs hb rr=>symm;exact⟨a,xs,rfl,rr,λM2 H2 st=>cB.of (st _ _ hb.2 hb.1).1⟩
 |@tup _ a xs hb rr=>
  symm;refine⟨a,xs,rfl,rr,λM2 H2 st=>?_⟩
  have:TupAt K M2 H2 a xs:=by
   rcases hb with ⟨na,hr⟩ |hk
   . exact .inl (st.rd na hr)
   . exact .inr hk
  exact this.sq
 |@fix _ a xs hb rr=>
  symm;refine⟨a,xs,rfl,rr,λM2 H2 st=>?_⟩
  have:mD K M2 H2 a xs:=by
   rcases hb with ⟨na,o,hr⟩ |hk
   . exact .inl ⟨(st _ _ hr na).2,o,(st _ _ hr na).1⟩
   . exact .inr hk
  exact this.sq
 |_=>symm
theorem Cq(ta:Xw tp s.heap a xs)(tb:Xw tp s.heap b ys)
  (h:∀h',IsZip h' (s⁻¹+4) (s⁻¹+2) (s⁻¹+3) .none->IsPair h' (s⁻¹+2) (.ref s⁻¹) (.ref (s⁻¹+1))->
   IsPair h' (s⁻¹+3) .none .none->DK tp h' s⁻¹ a 0->DK tp h' (s⁻¹+1) b 0->h'.objs.size=s⁻¹+5->
   (∀c o,s.heap.get? c=some o->h'.get? c=some o)->Q (.ref (s⁻¹+4)) { s with heap:=h'}):wpAny (model prog w) A (call (.type "zip") [.ref a,.ref b]) Q E s:=by
 cases tp with
 |true=>exact Cp ta tb h
 |false=>exact call_zip_2 ta tb h
theorem Se{d1 d2:D}{l m:List D}(hK:z.K=X.K)(ha:cZ X z [e1,e2] g [.dat d1,.dat d2] g1)(h1:bx d1=some l)(h2:bx d2=some m)(hkd:isTup d1=isTup d2)(hg:Gl X "zip")(hm:X.mg "zip"=none)(eG:starEach [e1,e2] X.env=(false,eval e1 X.env)::starEach [e2] X.env)(mh:(backTo rp (starEach [e2] X.env)).any (·.1)=false) :
  dJ X z (.Tuple es k pos) (.Call (.Name "zip" p) [e1,e2] [] rp) g (vP l m) g1:=by
 refine dJ.of λL s Y As M H Post I Xv kk=>?_
 refine Call_ (eL I hg hm boot_zip (l8 (ha.run I Xv λvs us s1 H1 aY M1 I1 r1 q1 q2 q3=>?_) eG mh))
 cases q3 with
 |dat rp1 R=>cases R with
  |dat rp2 R=>
   cases R;obtain⟨u1,u2,rfl,Xs,ru2⟩:=vals2 r1;obtain⟨a,xs,rfl,rr1,sq1⟩:=rp1.sqX h1;obtain⟨b,ys,rfl,Dz,sq2⟩:=rp2.sqX h2;cases Xs;cases ru2;rw[<- hkd]at sq2;have sa:nU (isTup d1) X.K H1 a xs:=hK▸sq1 M1 H1 (az.refl _ _);have sb:nU (isTup d1) X.K H1 b ys:=hK▸sq2 M1 H1 (az.refl _ _);obtain⟨Xz,_,XC,_⟩:=sa.real I1;obtain⟨XD,_,XF,_⟩:=sb.real I1;refine Cq XC XF λh' er eI eO t1 t2 za hk=>kk _ _ λR kR=>?_
   refine wpAny_pyIter_zip er ?_;have I2:L2.Inv X L Y H1 { s1 with heap:=h'}:=I1.kept (t':=s1.toks) hk;refine⟨_,[s1⁻¹+4,s1⁻¹+2,s1⁻¹+3,s1⁻¹,s1⁻¹+1],_,Itz (isTup d1) X.K a b,H1,rfl,I2,Gz (s1⁻¹+4) (s1⁻¹+2) (s1⁻¹+3) s1⁻¹ (s1⁻¹+1) a b (by refine⟨?_,?_,?_,?_⟩ <;> (intro q;have q:(_:Nat)=_:=q;lia)) (by refine⟨?_,?_,?_⟩ <;> (intro q;have q:(_:Nat)=_:=q;lia)) (by refine⟨?_,?_,?_⟩ <;> (intro q;have q:(_:Nat)=_:=q;lia)),⟨er,eI,⟨_,_,eO⟩,t1,t2⟩,λc hc=>?_,kR _ H1 aY M1 q1 q2 λM2 H2 aN=>?_⟩
   .
    have hle:s1⁻¹<=c:=by simp only[d6,kS,yB]at hc;rcases hc with rfl |rfl |rfl |rfl |rfl <;> lia
    exact I1.uY hle (I1.hok.fresh hle)
   .
    have s1':=hK▸sq1 M2 H2 aN;have s2':=hK▸sq2 M2 H2 aN;have R1:=rr1.stay aN;have R2:=Dz.stay aN;refine⟨λn d hd=>?_,xs,ys,s1',s2',?_⟩
    .
     obtain⟨x,y,f1,f2,rfl⟩:=GC hd;obtain⟨vx,e2,e3⟩:=R1.get f1;obtain⟨vy,e4,e5⟩:=R2.get f2;refine⟨⟨xs,ys,vx,vy,s1',s2',e2,e4⟩,λw H' hy z' g' σ' aF hz' s'=>?_⟩
     obtain⟨p,u,v,w1,w2,w3,rfl,rfl⟩:=hy;have w1:=w1 xs s1';have w2:=w2 ys s2';rw[e2]at w1;cases w1;rw[e4]at w2;cases w2;exact⟨s'.laid w3,az.laid w3,.tup (.inl ⟨s'.fresh w3,.inl aG⟩) (.cons (e3.stay (az.laid w3)) (.cons (e5.stay (az.laid w3)) .nil))⟩
    . rw[GD,rr1.length,Dz.length];lia
end
end Ev
namespace L2
def zL(T:List Addr)(H:Hp):Prop:=∀b,(b∈T/\H b=some (.Dt #[]))\/(b∉T/\(H b=none\/∃o xs,H b=some (.Ds o (.lst xs))))
theorem Cr{P:Program}{w:World}{K:Frag}{mg mb:Str->Option Value}{CX:Eo}{k:Nat}{fa a:Addr}{fd:FuncData}{x:Str}{sp:Sp}{s₁:Shared}{vs:List Value}{ns: ~~~0}{T:List Addr}
  (KX:K.In s₁.heap) (hT:∀q∈T,(∃c,s₁.heap.TableAt c q #[])/\K.lookup q=none) (hns:s₁.heap.Ns mainGlobals mg) (hb:s₁.heap.Ns builtinsNs mb) (hbb:∀x:Str,x≠ "__name__" ->mb x=bootBuiltins x) (hlim:s₁.heap.NoLimit) (hg:s₁.gens = #[])
  (ha:s₁.heap.get? a=some { cls:=.type "list",data:=.seq vs.toArray}) (hi:IntsAre vs ns) (hl:ns.length<=sizeLine) (hr:gj k callerA)
  (F:∀base:Heap,K.In base->base.Ns mainGlobals mg->qq P w K mg base CX k fa fd [x] sp) (hbind:∀(s:Shared) (u:Value),BindsTo s fd ⟨[u],[]⟩ [(x,u)])
  (Vd:∀H:Hp,zL T H->cB K H a (ns.map V.int)->sp [.ref a] H (λv _=>v=.bl true) λ_ _ _=>False)
  (hCX:∀H e s',CX [] H s₁ (λ_ _ _=>False) e s'->False) :
  codeAny (model P w) callerA (.call (.ref fa) ⟨[.ref a],[]⟩) (λr s'=>r=.ok (.ret (.bool true))/\OldK s₁.heap s'.heap/\s'.os=s₁.os/\AllBare s'.gens) s₁:=by
 have rv:=iY hi;have lenV:=hi.length;have aT:a∉T:=λh=>by
  obtain⟨⟨c,_,e⟩,_⟩:=hT a h;rw[ha]at e;cases e
 have core:∀H:Hp,zL T H->cB K H a (ns.map V.int)->n5 P w H s₁.heap->(∀b,H b≠none->b=a\/b∈T)->(H a≠none->K.lookup a=none)->
   codeAny (model P w) callerA (.call (.ref fa) ⟨[.ref a],[]⟩) (λr s'=>r=.ok (.ret (.bool true))/\OldK s₁.heap s'.heap/\s'.os=s₁.os/\AllBare s'.gens) s₁:=by
  intro H hO hS hok hA hK;have zM:∀{b:Addr}{o:Obj},s₁.heap.get? b=some o->H b=none->(sH s₁.heap H).get? b=some o:=λe n=>DY e n
  have Wx:∀{b:Addr}{o:Obj}{es:Array DictEntry}{ep:Nat},s₁.heap.get? b=some o->o.data=.dict es ep->H b=none:=λ{b o es ep} e d=>by
   cases q:H b with
   |none=>rfl
   |some u=>
    rcases hA b (by rw[q];simp)with e' |e'
    . subst e';rw[ha]at e;cases e;have d':Data.seq vs.toArray _=Data.dict es ep:=d;cases d'
    . obtain⟨⟨c,_,e2⟩,_⟩:=hT b e';rw[e]at e2;cases e2;have d':Data.fields #[]=Data.dict es ep:=d;cases d'
  have ZP:∀{b:Addr}{m:Str->Option Value},s₁.heap.Ns b m->(sH s₁.heap H).Ns b m:=λ{b m} ⟨o,es,ep,e,d,r⟩=>⟨o,es,ep,zM e (Wx e d),d,r⟩
  have Ov:K.In (sH s₁.heap H):=λb o e=>zM (KX b o e) (by
   cases q:H b with
   |none=>rfl
   |some u=>
    rcases hA b (by rw[q];simp)with e' |e'
    . subst e';rw[hK (by rw[q];simp)]at e;cases e
    .
     rw[(hT b e').2]at e;cases e)
  have hM:Mod K mg (sH s₁.heap H):=⟨Ov,ZP hns,⟨mb,ZP hb,hbb⟩,let ⟨mc,h1,h2⟩:=hlim;⟨mc,ZP h1,h2⟩⟩
  have e0:J7 P w K mg (sH s₁.heap H) callerA [] s₁ H:=⟨rfl,hM,λb o e=>JK e,Nat.le_of_eq (Au _ _),trivial,λb hb=>absurd (show b∈([]:List Addr)from hb) ⋯,hok,.of_eq hg⟩
  refine codeAny_mono ((F _ Ov (ZP hns)).run callerA [] s₁ H ⟨[.ref a],[]⟩ [.ref a] [.ref a] _ _ hr e0 (hbind s₁ (.ref a)) (.cons rfl .nil) (Vd H hO hS)) λr s' h=>?_
  cases r with
  |error e=>exact (hCX H e s' h).elim
  |ok fl=>
   cases fl with
   |next=>exact False.elim h
   |brk=>exact False.elim h
   |cont=>exact False.elim h
   |ret u=>
    obtain⟨v,H',os,bare,un,XJ,r',q⟩:=h;have q':v=.bl true:=q;subst q';obtain rfl:u=Value.bool true:=r';have tabs:∀b∈T,∀o,s₁.heap.get? b=some o->∃more,o={ cls:=.none,data:=.fields #[]}/\s'.heap.get? b=some { cls:=.none,data:=.fields more}:=λb hb o e=>by
     obtain⟨⟨c,_,e2⟩,_⟩:=hT b hb;rw[e]at e2;cases e2;rcases hO b with ⟨_,z⟩ |⟨z,_⟩
     . obtain⟨more,z2⟩:=un.sG b _ z;exact⟨_,rfl,XJ b _ z2⟩
     . exact absurd hb z
    have rest:∀b,b∉T->∀o,s₁.heap.get? b=some o->s'.heap.get? b=some o:=λb hb o e=>by
     cases q:H b with
     |none=>exact un.keep b o e q (by intro z;exact absurd (show b∈([]:List Addr)from z) ⋯) ⋯
     |some u=>
      rcases hO b with ⟨z,_⟩ |⟨_,z⟩
      . exact absurd z hb
      .
       rcases z with z |⟨ob,xs,z⟩
       . rw[q]at z;cases z
       . have z2:=un.sF b ob _ z;obtain⟨e1,_⟩:=hok b _ z;obtain⟨e2,_⟩:=XJ b _ z2;rw[e]at e1;cases e1;exact e2
    refine⟨rfl,⟨λb o e=>?_,λb o e=>?_⟩,os,bare⟩
    .
     by_cases hb:b∈T
     . obtain⟨more,rfl,e2⟩:=tabs b hb o e;obtain⟨⟨c,t⟩,_⟩:=hT b hb;exact .inr (.inl ⟨t.isCodeTable,rfl,#[],more,rfl,by rw[e2];simp⟩)
     . exact .inl (rest b hb o e)
    .
     by_cases hb:b∈T
     . obtain⟨more,rfl,e2⟩:=tabs b hb o e;exact⟨_,e2⟩
     . exact⟨_,rest b hb o e⟩
 have GF:∀b∈T,s₁.heap.get? b=some { cls:=.none,data:=.fields #[]}:=λb hb=>by
  obtain⟨⟨c,_,e2⟩,_⟩:=hT b hb;exact e2
 cases hk:K.lookup a with
 |some o=>
  have e:=KX a o hk;rw[ha]at e;cases e;refine core (λb=>if b∈T then some (.Dt #[])else none) (λb=>?_) (.inr ⟨_,vs.toArray,_,hk,rfl,rfl,rfl,by rw[dC,lenV];exact hl,by simpa using rv⟩) (λb u z=>?_) (λb z=>?_) λz=>absurd (hU aT) z
  .
   by_cases hb:b∈T
   . exact .inl ⟨hb,fN hb⟩
   . exact .inr ⟨hb,.inl (hU hb)⟩
  .
   by_cases hb:b∈T
   . have z':=(fN hb).symm.trans z;cases z';exact GF b hb
   . have z':=(hU hb).symm.trans z;cases z'
  .
   by_cases hb:b∈T
   . exact .inr hb
   . exact absurd (hU hb) z
 |none=>
  refine core (λb=>if b∈T then some (.Dt #[])else if b=a then some (.Ds { cls:=.type "list",data:=.seq vs.toArray} (.lst (ns.map V.int)))else none) (λb=>?_) (.inl (.inr ⟨{ cls:=.type "list",data:=.seq vs.toArray},(hU aT).trans (fN rfl)⟩)) (λb u z=>?_) (λb z=>?_) λ_=>hk
  .
   by_cases hb:b∈T
   . exact .inl ⟨hb,fN hb⟩
   .
    refine .inr ⟨hb,?_⟩;by_cases hb2:b=a
    . exact .inr ⟨_,_,(hU hb).trans (fN hb2)⟩
    . exact .inl ((hU hb).trans (hU hb2))
  .
   by_cases hb:b∈T
   . have z':=(fN hb).symm.trans z;cases z';exact GF b hb
   .
    have z1:=(hU hb).symm.trans z;by_cases hb2:b=a
    . have z':=(fN hb2).symm.trans z1;cases z';subst hb2;exact⟨ha,by rw[eA];exact hl,vs,_,rv,ha⟩
    . have z':=(hU hb2).symm.trans z1;cases z'
  .
   by_cases hb:b∈T
   . exact .inr hb
   .
    by_cases hb2:b=a
    . exact .inl hb2
    . exact absurd ((hU hb).trans (hU hb2)) z
end L2
namespace Ev
open L2
end Ev
namespace PySem
end PySem
namespace Ev
open L2
noncomputable def XM(K:Frag)(C D:Addr):Bool:=match K.lookup C with
 |some ⟨_,_,.cls cd,_⟩=>cd.mro.contains (.ref D)
 |_=>false
section
variable{g g':G}
theorem Slots.nos'{K:Frag}(Y:Sg):Slots K M H (List.replicate Y.length .no) Y []:=by
 induction Y with
 |nil=>exact .nil
 |cons v Y ih=>exact .no ih
theorem Slots.mO{K:Frag}{i:Nat}{v:Option V}(q:Slots K M H g Y As)(e:g[i]?=some .no):Slots K M H g (Y.set i v) As:=by
 induction q generalizing i with
 |nil=>exact .nil
 |no q ih=>cases i with
  |zero=>exact .no q
  |succ i=>exact .no (ih e)
 |dat r q ih=>cases i with
  |zero=>cases e
  |succ i=>exact .dat r (ih e)
 |own a b q ih=>cases i with
  |zero=>cases e
  |succ i=>exact .own a b (ih e)
theorem S.mO(s:S z g Y As M H)(e:g[i]?=some .no):S z g (Y.set i v) As M H where
 sl:=s.sl.mO e
 nd:=s.nd
 sub:=s.sub
 own:=λj a l e1 e2=>s.own j a l e1 (by
  rw[gL (λq=>by rw[<- q,e]at e1;cases e1)]at e2;exact e2)
 live:=s.live
 keep:=s.keep
 kY:=s.kY
 m0:=s.m0
 bm:=s.bm
 jz:=λp hp=>by
  obtain⟨h1,l,h2⟩:=s.jz p hp;exact⟨by rw[gL (λq=>by rw[<- q,e]at h2;cases h2)];exact h1,l,h2⟩
 tab:=s.tab
 tm:=s.tm
 tt:=s.tt
end
end Ev
namespace L2
end L2
namespace Ev
open L2
structure Lt where
 params:Arguments
 body:Expr
 scope:Scope
 pos:Pos
noncomputable abbrev Lt.ex(l:Lt):Expr:=.Lambda l.params l.body l.scope l.pos
section
theorem S.GJ(s:S z g Y As M H){a:Addr}{xs xs':List V}(hm:a∈M)(hA:a∉As)(h0:z.H0 a=none)(h:H a=some (.lst xs)):S z g Y As M (upd H a (.lst xs')):=s.QH hm hA h0 h trivial trivial
end
open L2 PySem.W
noncomputable def Ds:Slot->Slot
 |.own l=>.dat (.lst l)
 |s=>s
inductive Vk(X:Cx):List Stmt->List TS->Prop
 |nil:Vk X [] []
 |cons {s:Stmt}{ss:List Stmt}{t:TS}{ts:List TS}:PS X s t->Vk X ss ts->Vk X (s::ss) (t::ts)
def Sf:List TS->TS->TS
 | [],u=>u
 |t::ts,u=>V8 t (Sf ts u)
theorem Vk.pss{X:Cx}{ss rest:List Stmt}{ts:List TS}{u:TS}(h:Vk X ss ts)(hu:uL X rest u):uL X (ss++rest) (Sf ts u):=by
 induction h with
 |nil=>exact hu
 |cons a _ ih=>exact gH a ih
def Cv(X:Cx)(z:Z)(ss:List Stmt)(g:G)(f:Fl)(g':G):Prop:=
 ∃ts,Vk X ss ts/\∀(u:TS) Y As M H (E:Ends),S z g Y As M H->oW z M H { E with nx:=u E} g' f->Sf ts u E Y H
theorem Cv.bk{X:Cx}{z:Z}{ss rest:List Stmt}{g g1 g':G}{f:Fl}(h:Cv X z ss g .nx g1)(h2:fD X z rest g1 f g'):fD X z (ss++rest) g f g':=by obtain⟨t2,q2,k2⟩:=h2;obtain⟨t,q,k⟩:=h;exact⟨_,q.pss q2,λY As M H E s kE=>k t2 Y As M H E s λσ' aF M' H' s' st=>k2 σ' aF M' H' E s' (kE.trans st)⟩
theorem Cv.end{X:Cx}{z:Z}{ss rest:List Stmt}{g g':G}{f:Fl}(h:Cv X z ss g f g')(hn:f≠.nx):fD X z (ss++rest) g f g':=by
 obtain⟨t,q,k⟩:=h;refine⟨_,q.pss eZ,λY As M H E s kE=>k _ Y As M H E s ?_⟩
 cases f with
 |nx=>exact absurd rfl hn
 |rt r=>exact kE
 |bk=>exact kE
 |ct=>exact kE
def Sh(X:Cx)(tg iter:Expr):TI:=λY H R=>∃wi,PI X tg iter wi/\wi Y H R
theorem GK:PI X tg iter (Sh X tg iter):=λL s Y H R I h=>let ⟨wi,q,k⟩:=h;q L s Y H R I k
section
theorem GL(hC:∀g b g',tG g b g'->dG X z ifs g b g')(hE:∀g d g',Js g d g'->aA X z cO g (.dat d) g')(hw:dJ X z tg iter g2 aj RC)(ht:gQ X z tg T)(dg:last∉T.ix)
  (hcp:jj T last tG Js aj RC g3) {Y:Sg}{As M:List Addr}{H:Hp}{Nn:Sg->Hp->Prop}{D:Addr} (s:S z g2 Y As M H) (hD:Y[last]?=some (some (.ref D)))
  (k:∀σ' aF M' H',S z g3 σ' aF M' H'->az M H M' H'->σ'[last]?=some (some (.ref D))->uN T.ix Y σ'->Nn σ' H'):W0 (Sh X tg iter) (Bu X tg) (FP X ifs) (qE D (Bv X cO)) Y H Nn:=by
 obtain⟨wi,q,kw⟩:=hw;refine⟨wi,q,kw Y As M H _ s λJ H1 aY M1 s1 dH hJ=>?_⟩
 refine⟨λi m σ' H'=>i+m=aj.length/\∃gb Ab Mb,S z gb σ' Ab Mb H'/\az M1 H1 Mb H'/\uN T.ix Y σ'/\σ'[last]?=some (some (.ref D))/\jj T last tG Js (aj.drop i) gb g3,
  ⟨aj.length,by lia,_,_,_,s1,az.refl _ _,uN.refl _ _,hD,hcp⟩,?_⟩
 rintro i m σ' H' ⟨Xm,gb,Ab,Mb,s2,aN,ag,Bw,cp⟩;obtain⟨hgo,hstop⟩:=hJ Mb H' aN;cases e:aj[i]? with
 |none=>
  have hi:i=aj.length:=by have:=oT.mp e;lia
  subst hi;rw[AS]at cp;cases cp;exact .inl ⟨hstop,k σ' Ab Mb H' s2 (dH.trans aN) Bw ag⟩
 |some d=>
  obtain⟨go,yl⟩:=hgo i d e;rw[drop_cons e]at cp;have hi:i<aj.length:=(dA.mp e).1;refine .inr ⟨go,λσ' H'=>∃gb Ab Mb,S z gb σ' Ab Mb H'/\az M1 H1 Mb H'/\uN T.ix Y σ'/\σ'[last]?=some (some (.ref D))/\jj T last tG Js (aj.drop (i+1)) gb g3,
   λBg Bh hN=>⟨m - 1,by lia,by lia,hN⟩,λx H2 hx=>?_⟩
  obtain⟨s3,eK,rx⟩:=yl x H2 hx z gb σ' Ab rfl s2;obtain⟨t,qt,kt⟩:=ht;cases cp with
  |skip e0 hc rest=>
   refine⟨t,qt,kt d gb _ e0 x _ Ab Mb H2 _ s3 rx λσ4 jC s4 XQ=>?_⟩
   obtain⟨t2,q2,k2⟩:=hC _ _ _ hc;refine⟨t2,q2,k2 _ jC Mb H2 _ s4 λH5 DG M5 s5 kT=>?_⟩
   exact qD ⟨_,DG,M5,s5,(aN.trans eK).trans kT,ag.trans XQ,by rw[XQ.2 _ dg];exact Bw,rest⟩
  |take e0 hc he ha hz' rest=>
   refine⟨t,qt,kt d gb _ e0 x _ Ab Mb H2 _ s3 rx λσ4 jC s4 XQ=>?_⟩
   obtain⟨t2,q2,k2⟩:=hC _ _ _ hc;obtain⟨t3,q3,k3⟩:=hE _ _ _ he;have K9:σ4[last]?=some (some (V.ref D)):=by rw[XQ.2 _ dg];exact Bw
   refine⟨t2,q2,k2 _ jC Mb H2 _ s4 λH5 DG M5 s5 kT=>kW ⟨t3,q3,k3 _ DG M5 H5 _ s5 λv H6 RQ M6 s6 Oo R6=>?_⟩⟩
   obtain⟨a,xs,f1,f2,f3,f4⟩:=s6.sl.at ha;rw[K9]at f1;injection f1 with f1;injection f1 with f1;injection f1 with f1;subst f1;obtain⟨s7,st7⟩:=s6.write ha K9 (f4.append (.cons R6 .nil));exact⟨xs,f3,by rw[<- f4.length,nS];exact hz',_,RQ,M6,s7,(((aN.trans eK).trans kT).trans Oo).trans st7,ag.trans XQ,K9,rest⟩
end
inductive ie(T:Tg)(tG:G->Bool->G->Prop)(In:G->G->Prop):List D->G->G->Prop
 |nil {g:G}:ie T tG In [] g g
 |skip:T.set d g=some g1->tG g1 false g2->ie T tG In l g2 g'->ie T tG In (d::l) g g'
 |take:T.set d g=some g1->tG g1 true g2->In g2 g3->ie T tG In l g3 g'->ie T tG In (d::l) g g'
section
def yt(X:Cx)(z:Z)(N':List Str)(scope:Scope)(tg iter cO:Expr)(ifs:List Expr)(T:Tg)(last:Nat)(g2 g3:G):Prop:=
 ∃aj RC,(∀bk:Bk,dJ (X.blk N' scope bk) z tg iter g2 aj RC)/\jj T last (λg b g'=>∀bk:Bk,dG (X.blk N' scope bk) z ifs g b g') (λg d g'=>∀bk:Bk,aA (X.blk N' scope bk) z cO g (.dat d) g') aj RC g3
theorem mQ(hw:dJ X z t1 i1 g aj g1)(ht1:∀b:Bk,gQ (X.blk N' scope b) z t1 T1)(ht:∀b:Bk,gQ (X.blk N' scope b) z tg T)(hT1:∀i∈T1.ix,g1.length<=i/\i<g1.length+k)(hT:∀i∈T.ix,g1.length<=i/\i<g1.length+k)
  (hcp:ie T1 (λg b g'=>∀bk:Bk,dG (X.blk N' scope bk) z f1 g b g') (yt X z N' scope tg iter cO ifs T (g1.length+k)) aj (gC k g1) gE) (hacc:gE[g1.length+k]?=some (.own acc)) :
  ∃wi,PI X t1 i1 wi/\∀Y As M H Q,S z g Y As M H->Kn z (gE.take g1.length) Y M H (.new acc) Q->qZ X k wi (λb=>Bu (X.blk N' scope b) t1) (λb=>FP (X.blk N' scope b) f1) (λD b=>W0 (Sh (X.blk N' scope b) tg iter) (Bu (X.blk N' scope b) tg) (FP (X.blk N' scope b) ifs) (qE D (Bv (X.blk N' scope b) cO))) Y H Q:=by
 obtain⟨wi,q,kw⟩:=hw;refine⟨wi,q,λY As M H Q s kq=>kw Y As M H _ s λJ H1 aY M1 s1 dH hJ D hD=>?_⟩
 have hl:g1.length=Y.length:=s1.sl.length;have hz:∀p∈z.lent,p.1<Y.length:=λp hp=>(dA.mp (s1.jz p hp).1).1
 have XR:∀i∈T1.ix,Y.length<=i:=λi hi=>by rw[<- hl];exact (hT1 i hi).1
 have Ju:∀i∈T.ix,Y.length<=i:=λi hi=>by rw[<- hl];exact (hT i hi).1
 have GP:g1.length+k∉T1.ix:=λh=>mP _ (hT1 _ h).2
 have dg:g1.length+k∉T.ix:=λh=>mP _ (hT _ h).2
 have s1':=s1.aV (xs:=[]) hD;have h0:z.H0 D=none:=s1.cH hD;have nA:D∉aY:=λh=>s1.fresh hD (s1.sub D h)
 have sb:=s1'.extend (k:=k) (l:=[]) c8 nA h0 aG .nil;have FQ:(Y++(List.replicate k none++[some (V.ref D)]))[g1.length+k]?=some (some (V.ref D)):=by
  rw[hl,eQ (CI _ _),oP,eQ (by rw[i6];exact eD _),i6,Nat.sub_self]
  rfl
 refine⟨λi m σ' H'=>i+m=aj.length/\∃gb Ab Mb τ,S z gb σ' Ab Mb H'/\az M1 H1 Mb H'/\σ'=Y++τ/\σ'[g1.length+k]?=some (some (.ref D))/\ie T1 (λg b g'=>∀bk:Bk,dG (X.blk N' scope bk) z f1 g b g') (yt X z N' scope tg iter cO ifs T (g1.length+k)) (aj.drop i) gb gE,
  ⟨aj.length,by lia,_,_,_,_,sb,az.aV hD,rfl,FQ,hcp⟩,?_⟩
 rintro i m σ' H' ⟨Xm,gb,Ab,Mb,τ,s2,aN,rfl,Bw,cp⟩;obtain⟨hgo,hstop⟩:=hJ Mb H' aN;cases e:aj[i]? with
 |none=>
  have hi:i=aj.length:=by have:=oT.mp e;lia
  subst hi;rw[AS]at cp;cases cp;refine .inl ⟨hstop,?_⟩;obtain⟨a,xs,f1,f2,f3,f4⟩:=s2.sl.at hacc;rw[Bw]at f1;injection f1 with f1;injection f1 with f1;injection f1 with f1;subst f1;obtain⟨A1,s3,m3,n3⟩:=s2.shrink hz ⋯ hacc Bw;rw[<- hl]at s3;exact kq _ H' A1 Mb s3 (dH.trans aN) ⟨D,xs,rfl,m3,n3,h0,f3,f4⟩
 |some d=>
  obtain⟨go,yl⟩:=hgo i d e;rw[drop_cons e]at cp;have hi:i<aj.length:=(dA.mp e).1;refine .inr ⟨go,λσ' H'=>∃gb Ab Mb τ,S z gb σ' Ab Mb H'/\az M1 H1 Mb H'/\σ'=Y++τ/\σ'[g1.length+k]?=some (some (.ref D))/\ie T1 (λg b g'=>∀bk:Bk,dG (X.blk N' scope bk) z f1 g b g') (yt X z N' scope tg iter cO ifs T (g1.length+k)) (aj.drop (i+1)) gb gE,
   λBg Bh hN=>⟨m - 1,by lia,by lia,hN⟩,λx H2 hx bk _=>?_⟩
  obtain⟨s3,eK,rx⟩:=yl x H2 hx z gb (Y++τ) Ab rfl s2;obtain⟨t,qt,kt⟩:=ht1 bk;cases cp with
  |skip e0 hc rest=>
   refine⟨t,qt,kt d gb _ e0 x _ Ab Mb H2 _ s3 rx λσ4 jC s4 ag=>?_⟩
   obtain⟨τ',rfl⟩:=dP ag XR;obtain⟨t2,q2,k2⟩:=hc bk;refine⟨t2,q2,k2 _ jC Mb H2 _ s4 λH5 DG M5 s5 kT=>?_⟩
   refine qD ⟨_,DG,M5,τ',s5,(aN.trans eK).trans kT,rfl,?_,rest⟩;rw[ag.2 _ GP];exact Bw
  |take e0 hc hin rest=>
   obtain⟨items2,RC,Ow,Jw⟩:=hin;refine⟨t,qt,kt d gb _ e0 x _ Ab Mb H2 _ s3 rx λσ4 jC s4 ag=>?_⟩
   obtain⟨τ',rfl⟩:=dP ag XR;obtain⟨t2,q2,k2⟩:=hc bk;have K9:(Y++τ')[g1.length+k]?=some (some (V.ref D)):=by rw[ag.2 _ GP];exact Bw
   refine⟨t2,q2,k2 _ jC Mb H2 _ s4 λH5 DG M5 s5 kT=>kW ?_⟩
   refine GL (λg b g' h=>h bk) (λg d g' h=>h bk) (Ow bk) (ht bk) dg Jw s5 K9 λσ6 RQ M6 H6 s6 Oo Vl ag6=>?_
   obtain⟨τ6,rfl⟩:=dP ag6 Ju;exact⟨_,RQ,M6,τ6,s6,((aN.trans eK).trans kT).trans Oo,rfl,Vl,rest⟩
theorem GQ(B:bR X.env.scope scope)(hc:X.calm=true)(hN:Names X.N N' scope k)(hw:dJ X z t1 i1 g aj g1)(ht1:∀b:Bk,gQ (X.blk N' scope b) z t1 T1)(ht:∀b:Bk,gQ (X.blk N' scope b) z tg T)(hT1:∀i∈T1.ix,g1.length<=i/\i<g1.length+k)(hT:∀i∈T.ix,g1.length<=i/\i<g1.length+k)
  (hcp:ie T1 (λg b g'=>∀bk:Bk,dG (X.blk N' scope bk) z f1 g b g') (yt X z N' scope tg iter cO ifs T (g1.length+k)) aj (gC k g1) gE) (hacc:gE[g1.length+k]?=some (.own acc))
  (hs:∀x,foldedSetIterable i1 X.env x=pure x) (hs2:∀(b:Bk) x,foldedSetIterable iter (X.blk N' scope b).env x=pure x):aA X z (.ListComp cO [⟨t1,i1,f1,0⟩,⟨tg,iter,ifs,0⟩] scope pos) g (.new acc) (gE.take g1.length):=by
 obtain⟨wi,q,kk⟩:=mQ hw ht1 ht hT1 hT hcp hacc;exact⟨_,EY B hc hN q (λb=>⟨⟨jD,lz⟩,GK,jD,lz,lA⟩) hs hs2,kk⟩
theorem GR(B:bR X.env.scope scope)(hc:X.calm=true)(hN:Names X.N N' scope k)(hw:dJ X z t1 i1 g aj g1)(ht1:∀b:Bk,gQ (X.blk N' scope b) z t1 T1)(ht:∀b:Bk,gQ (X.blk N' scope b) z tg T)(hT1:∀i∈T1.ix,g1.length<=i/\i<g1.length+k)(hT:∀i∈T.ix,g1.length<=i/\i<g1.length+k)
  (hcp:ie T1 (λg b g'=>∀bk:Bk,dG (X.blk N' scope bk) z f1 g b g') (yt X z N' scope tg iter cO ifs T (g1.length+k)) aj (gC k g1) gE) (hacc:gE[g1.length+k]?=some (.own acc))
  (Ez:X.N.Nodup) (hy:X.N[i]?=some y) (hl:X.env.scope.names.lookup y=some .local) (hb:i∉z.bor) (hi:i<(gE.take g1.length).length)
  (hsw:swapsWith (.ListComp cO [⟨t1,i1,f1,0⟩,⟨tg,iter,ifs,0⟩] scope pos) (some (.Name y py)) bY.line X.env=pure true)
  (hs:∀x,foldedSetIterable i1 X.env x=pure x) (hs2:∀(b:Bk) x,foldedSetIterable iter (X.blk N' scope b).env x=pure x):iu X z (.Assign [.Name y py] (.ListComp cO [⟨t1,i1,f1,0⟩,⟨tg,iter,ifs,0⟩] scope pos) bY) g .nx ((gE.take g1.length).set i (.own acc)):=by
 obtain⟨wi,q,kk⟩:=mQ hw ht1 ht hT1 hT hcp hacc;refine⟨_,Fb B hc hN q (λb=>⟨⟨jD,lz⟩,GK,jD,lz,lA⟩) Ez hy hl hsw hs hs2,λY As M H E s kE=>kk Y As M H _ s λv H' aF M' s' st R=>?_⟩
 obtain⟨a,xs,rfl,hm,hA,h0,ha,rr⟩:=R;obtain⟨bI,s2⟩:=s'.oH hb hi hm hA h0 ha rr;exact kE _ bI M' H' s2 st
end
inductive gw(z:Z)(As M:List Addr)(H:Hp):List Addr->List (List D)->Prop
 |nil:gw z As M H [] []
 |cons {p:Addr}{as:List Addr}{xs:List V}{l:List D}{ll:List (List D)}:p∈M->p∉As->z.H0 p=none->H p=some (.lst xs)->aI z.K M H l xs->gw z As M H as ll->gw z As M H (p::as) (l::ll)
section
theorem gw.stay(h:gw z As M H as ll)(st:az M H M' H')(k:∀p∈as,p∈M'/\H' p=H p):gw z As M' H' as ll:=by
 induction h with
 |nil=>exact .nil
 |cons h1 h2 h3 h4 h5 _ ih=>obtain⟨k1,k2⟩:=k _ c8;exact .cons k1 h2 h3 (k2.trans h4) (h5.stay st) (ih λp hp=>k p (bP _ hp))
theorem gw.mem(h:gw z As M H as ll):∀p∈as,p∈M/\p∉As/\z.H0 p=none/\∃xs,H p=some (.lst xs):=by
 induction h with
 |nil=>intro p h;symm
 |cons h1 h2 h3 h4 _ _ ih=>intro p hp;rcases d6.mp hp with rfl |hp;exact⟨h1,h2,h3,_,h4⟩;exact ih p hp
theorem gw.get(h:gw z As M H as ll):∀{i:Nat}{l:List D},ll[i]?=some l->∃p xs,as[i]?=some p/\H p=some (.lst xs)/\aI z.K M H l xs:=by
 induction h with
 |nil=>intro i l e;cases e
 |cons h1 h2 h3 h4 h5 _ ih=>intro i l e;cases i with
  |zero=>cases (show some _=some l from e);exact⟨_,_,rfl,h4,h5⟩
  |succ i=>exact ih (i:=i) e
theorem gw.push(h:gw z As M H as ll)(h1:p∈M)(h2:p∉As)(h3:z.H0 p=none)(h4:H p=some (.lst xs))(h5:aI z.K M H l xs):gw z As M H (as++[p]) (ll++[l]):=by
 induction h with
 |nil=>exact .cons h1 h2 h3 h4 h5 .nil
 |cons a b c d e _ ih=>exact .cons a b c d e ih
theorem gw.write(h:gw z As M H as ll)(nd:as.Nodup)(r:aI z.K M (upd H p (.lst xs')) l' xs')(hp:p∈M):∀{i:Nat},as[i]?=some p->gw z As M (upd H p (.lst xs')) as (ll.set i l'):=by
 induction h with
 |nil=>intro i e;cases e
 |@cons q as xs l ll h1 h2 h3 h4 h5 hr ih=>
  intro i e;obtain⟨nd1,nd2⟩:=hV.mp nd;cases i with
  |zero=>
   cases (show some q=some p from e)
   exact .cons h1 h2 h3 aG r (hr.stay (az.write hp) λx hx=>⟨(hr.mem x hx).1,aC (λe=>nd1 (e▸hx))⟩)
  |succ i=>
   have hq:q≠p:=λe'=>nd1 (by rw[e'];exact l6 (show as[i]?=some p from e))
   exact .cons h1 h2 h3 (by rw[aC hq];exact h4) (h5.stay (az.write hp)) (ih nd2 (i:=i) e)
end
def Rows(z:Z)(g:G)(iy:Nat)(M0:List Addr)(H0:Hp)(ll:List (List D))(Y:Sg)(H:Hp):Prop:=
 ∃As M a as,S z g Y As M H/\az M0 H0 M H/\Y[iy]?=some (some (.ref a))/\a∈M/\a∉As/\z.H0 a=none/\H a=some (.lst (as.map .ref))/\a∉as/\as.Nodup/\gw z As M H as ll
theorem Rows.mO(h:Rows z g iy M0 H0 ll Y H)(e:g[i]?=some .no)(n:i≠iy):Rows z g iy M0 H0 ll (Y.set i v) H:=by obtain⟨As,M,a,as,s,st,e1,h⟩:=h;exact⟨As,M,a,as,s.mO e,st,by rw[gL n];exact e1,h⟩
section
variable{iy ix iw:Nat}
theorem zN(hy:X.N[iy]?=some y)(vy:mq X.env.scope y)(dy:(y==(~~~3))=false)(cy:(y==("__classdict__":Str))=false)(hx:X.N[ix]?=some x)(vx:mq X.env.scope x)(dx:(x==(~~~3))=false)(cx:(x==("__classdict__":Str))=false)
  (hw:X.N[iw]?=some w) (vw:mq X.env.scope w) (dw:(w==(~~~3))=false) (cw:(w==("__classdict__":Str))=false) (hline:(dY.endLine==bQ.line)=true) :
  ∃t,PS X (.Expr (.Call (.Attribute (.Subscript (.Name y py) (.Name x px) sp) "append" dY) [.Name w pw] [] bQ) ep) t/\∀Y H M0 H0 (E:Ends) (ll:List (List D)) (l:List D) (j:Nat) (b:Int),Rows z g iy M0 H0 ll Y H->Y[ix]?=some (some (.int j))->Y[iw]?=some (some (.int b))->ll[j]?=some l->l.length<1000->
   (∀H',Rows z g iy M0 H0 (ll.set j (l++[.int b])) Y H'->E.nx Y H')->t E Y H:=by
 refine⟨_,zh (zq AQ PySem.F.slot_list_append PySem.F.type_list_append kU (Oe sQ (dF hy vy dy cy) (dF hx vx dx cx) (λ_ _=>rfl)) (iX (dF hw vw dw cw) oh rfl) rfl rfl hline rfl rfl) rfl,λY H M0 H0 E ll l j b h ex ew el hl kE=>?_⟩
 obtain⟨As,M,a,as,s,st,e1,hm,hA,h0,ha,na,nd,rl⟩:=h;obtain⟨p,xs,ep,hp,rp⟩:=rl.get el;obtain⟨q1,q2,q3,_⟩:=rl.mem p (l6 ep);have hat:eU (as.map V.ref) (j:Int)=some (.ref p):=by
  have hj:j<as.length:=(dA.mp ep).1;unfold L2.eU L2.nk;rw[fN ⋯,fN (by rw[eA];lia)]
  simp only[o6];show (as.map V.ref)[j]?=some (.ref p);rw[tJ,ep];rfl
 refine⟨.ref a,e1,.int j,ex,a,as.map .ref,j,.ref p,rfl,rfl,cB.of ha,hat,.inl ⟨rfl,xs,cB.of hp⟩,.int b,ew,p,xs,.int b,rfl,rfl,hp,?_,kE _ ?_⟩
 . rw[<- rp.length,nS];lia
 .
  have hap:a≠p:=λe=>na (e▸l6 ep)
  refine⟨As,M,a,as,s.GJ q1 q2 q3 hp,st.trans (az.write q1),e1,hm,hA,h0,by rw[aC hap];exact ha,na,nd,?_⟩
  exact rl.write nd ((rp.stay (az.write q1)).append (.cons (.int b) .nil)) q1 ep
end
noncomputable def vQ(ll:List (List D)):D->Option (List (List D))
 |.tup [.int a,.int b]=>if 0<=a/\0<=b then match ll[a.toNat]? with
   |some l1=>if l1.length<1000 then match (ll.set a.toNat (l1++[.int b]))[b.toNat]? with
     |some l2=>if l2.length<1000 then some ((ll.set a.toNat (l1++[.int b])).set b.toNat (l2++[.int a]))else none
     |none=>none
    else none
   |none=>none
  else none
 |_=>none
noncomputable def iI:List D->List (List D)->Option (List (List D))
 | [],ll=>some ll
 |d::l,ll=>match vQ ll d with |some Ox=>iI l Ox |none=>none
theorem GX(h:vQ ll d=some Ox):∃(a b:Nat) (l1 l2:List D),d=.tup [.int a,.int b]/\ll[a]?=some l1/\l1.length<1000/\(ll.set a (l1++[.int b]))[b]?=some l2/\l2.length<1000/\Ox=(ll.set a (l1++[.int b])).set b (l2++[.int a]):=by
 unfold vQ at h;left
 .
  rename_i a b;left
  .
   rename_i h0;obtain⟨a,rfl⟩:∃n:Nat,a=n:=⟨a.toNat,by lia⟩
   obtain⟨b,rfl⟩:∃n:Nat,b=n:=⟨b.toNat,by lia⟩
   simp only[o6]at h;left
   .
    rename_i l1 e1;left
    .
     rename_i h1;left
     .
      rename_i l2 e2;left
      . rename_i h2;symm;exact⟨a,b,l1,l2,rfl,e1,h1,e2,h2,rfl⟩
      . symm
     . symm
    . symm
   . symm
  . symm
 . symm
theorem S.zO:∀(ps:List Addr) {M:List Addr},S z g Y As M H->(∀p∈ps,p∉As/\z.H0 p=none)->∃M',S z g Y As M' H/\(∀m∈M',m∈M)/\∀p∈ps,p∉M'
 | [],M,s,_=>⟨M,s,λ_ h=>h,λ_ h=>nomatch h⟩
 |p::ps,M,s,h=>by
  obtain⟨h1,h2⟩:=h p c8;obtain⟨M',s',k1,k2⟩:=S.zO ps (s.drop h2 h1) λq hq=>h q (bP _ hq)
  refine⟨M',s',λm hm=>(i9.mp (k1 m hm)).1,λq hq=>?_⟩
  rcases d6.mp hq with rfl |hq
  . intro hm;have:=(i9.mp (k1 _ hm)).2;simp at this
  . exact k2 q hq
theorem gw.reps(h:gw z As M H as ll)(hM:∀m∈M',m∈M)(n:∀p∈as,p∉M'):aI z.K M' H (ll.map .lst) (as.map .ref):=by
 induction h with
 |nil=>exact .nil
 |cons _ _ _ h4 h5 _ ih=>exact .cons (.lst ⟨n _ c8,h4⟩ (h5.stay (az.less hM))) (ih λp hp=>n p (bP _ hp))
theorem Rows.trans(st:az M0 H0 M1 H1)(h:Rows z g iy M1 H1 ll Y H):Rows z g iy M0 H0 ll Y H:=by obtain⟨As,M,a,as,s,aN,r⟩:=h;exact⟨As,M,a,as,s,st.trans aN,r⟩
section
variable{iy ia ib it:Nat}
theorem GZ(hp:PassesOwn (~~~2) X.A X.env X.xe)(hc:X.calm=true)(hK:z.K=X.K)(hy:X.N[iy]?=some y)(vy:mq X.env.scope y)(dy:(y==(~~~3))=false)(cy:(y==("__classdict__":Str))=false)
  (na:oZ X a ia) (va:mq X.env.scope a) (da:(a==(~~~3))=false) (ca:(a==("__classdict__":Str))=false) (nb:oZ X b ib) (vb:mq X.env.scope b) (db:(b==(~~~3))=false) (cb:(b==("__classdict__":Str))=false)
  (ht:X.N[it]?=some tn) (vt:mq X.env.scope tn) (dt:(tn==(~~~3))=false) (ct:(tn==("__classdict__":Str))=false) (hgt:g[it]?=some (.dat (.tup ao)))
  (hga:g[ia]?=some .no) (ZQ:g[ib]?=some .no) (hay:ia≠iy) (hby:ib≠iy) (hab:ia≠ib) (l1:(Oz.endLine==OD.line)=true) (l2:(OJ.endLine==Jw.line)=true)
  {ll0:List (List D)} (hF:iI ao ll0=some Jx) :
  ∃t,PS X (.For (.Tuple [.Name a pa,.Name b pb] tk Dr) (.Name tn tp) [.Expr (.Call (.Attribute (.Subscript (.Name y y1) (.Name a a1) Vm) "append" Oz) [.Name b b1] [] OD) Vn,.Expr (.Call (.Attribute (.Subscript (.Name y y2) (.Name b b2) Vo) "append" OJ) [.Name a a2] [] Jw) Vp] [] G0) t/\
   ∀M0 H0 Y H (E:Ends),Rows z g iy M0 H0 ll0 Y H->(∀σ' H',Rows z g iy M0 H0 Jx σ' H'->E.nx σ' H')->t E Y H:=by
 obtain⟨t1,q1,k1⟩:=zN (z:=z) (g:=g) (py:=y1) (px:=a1) (pw:=b1) (sp:=Vm) (ep:=Vn) hy vy dy cy na.ix va da ca nb.ix vb db cb l1;obtain⟨t2,q2,k2⟩:=zN (z:=z) (g:=g) (py:=y2) (px:=b2) (pw:=a2) (sp:=Vo) (ep:=Vp) hy vy dy cy nb.ix vb db cb na.ix va da ca l2;refine⟨_,Ei hp hc (Eh (dF ht vt dt ct)) (xG (n:=2) hc (iB (jU na.nd na.ix na.lc na.fn) (iB (jU nb.nd nb.ix nb.lc nb.fn) sI rfl) rfl) rfl rfl) (gH q1 (JV q2)) (λ_=>rfl),λM0 H0 Y H E h kE=>?_⟩
 obtain⟨As,M,ay,as,s,st,h⟩:=h;obtain⟨v,ev,rv⟩:=s.sl.oG hgt;cases rv with
 |@tup _ at' xs ha rr=>
  refine⟨.ref at',ev,at',rfl,⟨xs,hK▸ha.sq⟩,?_⟩;refine⟨λi m σ' H'=>i+m=ao.length/\∃ll,Rows z g iy M H ll σ' H'/\iI (ao.drop i) ll=some Jx,⟨ao.length,CB _,ll0,⟨As,M,ay,as,s,az.refl _ _,h⟩,hF⟩,?_⟩
  rintro i m σ' H' ⟨Xm,ll,hr,hf⟩;obtain⟨bI,M2,ay2,as2,s2,aN,h2⟩:=id hr;have ha2:TupAt z.K M2 H' at' xs:=by
   rcases ha with ⟨n,hq⟩ |hq
   . exact .inl (aN.rd n hq)
   . exact .inr hq
  have Dz:=rr.stay aN;cases e:ao[i]? with
  |none=>
   have hi:i=ao.length:=by have:=oT.mp e;lia
   subst hi;rw[AS]at hf;cases hf;exact .inl ⟨⟨xs,hK▸ha2.sq,by rw[<- rr.length];exact eD _⟩,kE σ' H' (hr.trans st)⟩
  |some d=>
   rw[drop_cons e]at hf;have hi:i<ao.length:=(dA.mp e).1;obtain⟨xd,e1,e2⟩:=Dz.get e;cases hd:vQ ll d with
   |none=>
    have hf:(match vQ ll d with |some Ox=>iI (ao.drop (i+1)) Ox |none=>none)=some Jx:=hf
    rw[hd]at hf;cases hf
   |some Ox=>
    have hf:(match vQ ll d with |some Ox=>iI (ao.drop (i+1)) Ox |none=>none)=some Jx:=hf
    rw[hd]at hf;obtain⟨Vq,Vr,r1,r2,rfl,g1,g2,g3,g4,rfl⟩:=GX hd;cases e2 with
    |@tup _ ad ys had XS=>
     cases XS with
     |cons ra XS=>cases XS with
      |cons rb XS=>
       cases XS;cases ra;cases rb;refine .inr ⟨⟨xs,.ref ad,hK▸ha2.sq,e1⟩,λBg Bh=>∃ll,Rows z g iy M H ll Bg Bh/\iI (ao.drop (i+1)) ll=some Jx,λBg Bh hN=>⟨m - 1,by lia,by lia,hN⟩,λx H2 hx=>?_⟩
       obtain⟨rfl,hy'⟩:=hx;have:=hy' xs (hK▸ha2.sq);rw[e1]at this;cases this;refine⟨ad,_,rfl,hK▸had.sq,rfl,_,_,rfl,_,_,rfl,rfl,?_⟩;have aL:σ'.length=g.length:=s2.sl.length.symm;have ila:ia<σ'.length:=by rw[aL];exact (dA.mp hga).1
       have ilb:ib<σ'.length:=by rw[aL];exact (dA.mp ZQ).1
       have hr2:=(hr.mO (v:=some (.int Vq)) hga hay).mO (v:=some (.int Vr)) ZQ hby
       have va':((σ'.set ia (some (V.int Vq))).set ib (some (V.int Vr)))[ia]?=some (some (.int Vq)):=by rw[gL (oQ hab),hZ ila]
       have vb':((σ'.set ia (some (V.int Vq))).set ib (some (V.int Vr)))[ib]?=some (some (.int Vr)):=by rw[hZ (by rw[xI];exact ilb)]
       exact k1 _ _ M H _ ll r1 Vq Vr hr2 va' vb' g1 g2 λH3 hr3=>k2 _ _ M H _ _ r2 Vr Vq hr3 vb' va' g3 g4 λH4 hr4=>⟨_,hr4,hf⟩
end
section
theorem S.XT(s:S z g Y As M H)(τ:Sg):S z (g++List.replicate τ.length .no) (Y++τ) As M H:=by
 have hl:=s.sl.length;have q:=s.sl.append (Slots.nos' (K:=z.K) (M:=M) (H:=H) τ);rw[n0]at q;refine⟨q,s.nd,s.sub,λi b l e1 e2=>?_,s.live,s.keep,s.kY,s.m0,s.bm,λp hp=>?_,s.tab,s.tm,s.tt⟩
 .
  rcases v6 i g.length with hi |hi
  . rw[dS hi]at e1;rw[dS ⋯]at e2;exact s.own i b l e1 e2
  . rw[eQ hi]at e1;have:=l6 e1;rw[xL]at this;cases this.2
 . obtain⟨q1,l',q2⟩:=s.jz p hp;exact⟨by rw[dS (dA.mp q1).1];exact q1,l',by rw[dS (dA.mp q2).1];exact q2⟩
theorem Slots.XX{K:Frag}:∀{n:Nat}{τ:Sg}{A:List Addr},Slots K M H (List.replicate n .no) τ A->A=[]
 | 0,_,_,q=>by cases q;rfl
 |n+1,_,_,q=>by
  rw[oI]at q;cases q with
  |no q=>exact Slots.XX q
theorem S.XZ{τ:Sg}{n:Nat}(s:S z (g++List.replicate n .no) (Y++τ) As M H)(hl:g.length=Y.length)(hz:∀p∈z.lent,p.1<Y.length):S z g Y As M H:=by
 obtain⟨σ1,σ2,A1,A2,h1,h2,h3,h4⟩:=s.sl.split;obtain⟨rfl,rfl⟩:=List.append_inj h1 (hl.symm.trans h3.length);have:=Slots.XX h4;subst this;rw[n0]at h2;subst h2;refine⟨h3,s.nd,s.sub,λi b l e1 e2=>?_,s.live,s.keep,s.kY,s.m0,s.bm,λp hp=>?_,s.tab,s.tm,s.tt⟩
 . have hi:=(dA.mp e1).1;exact s.own i b l (by rw[dS hi];exact e1) (by rw[dS ⋯];exact e2)
 . obtain⟨c1,l',c2⟩:=s.jz p hp;have tF:=hz p hp;rw[dS tF]at c1;rw[dS ⋯]at c2;exact⟨c1,l',c2⟩
end
section
variable{iy im:Nat}
theorem Cw(hj:j<k)(hN:Names X.N N' scope k)(B:bR X.env.scope scope)(hc:X.calm=true)(hx:∀b:Bk,oZ (X.blk N' scope b) x (X.N.length+j))(hgr:Gl X "range")(hmr:X.mg "range"=none)
  (O1:g.length=X.N.length) (hm:X.N[im]?=some mn) (vm:mq X.env.scope mn) (dm:(mn==(~~~3))=false) (cm:(mn==("__classdict__":Str))=false) (hgm:g[im]?=some ‹m›) (hm1:m<=1000)
  (Ez:X.N.Nodup) (hy:X.N[iy]?=some y) (hl:X.env.scope.names.lookup y=some .local) (ZR:g[iy]?=some .no)
  (hsw:swapsWith (.ListComp (.List [] lp) [⟨.Name x px,.Call (.Name "range" rp) [.Name mn mp] [] Vs,[],0⟩] scope Si) (some (.Name y py)) ap.line X.env=pure true) :
  ∃t,PS X (.Assign [.Name y py] (.ListComp (.List [] lp) [⟨.Name x px,.Call (.Name "range" rp) [.Name mn mp] [] Vs,[],0⟩] scope Si) ap) t/\∀Y As M H (E:Ends),S z g Y As M H->(∀σ' H',Rows z g iy M H (List.replicate m []) σ' H'->E.nx σ' H')->t E Y H:=by
 refine⟨_,zA (k:=k) B hc hN (qR hgr hmr (iX (dF hm vm dm cm) oh rfl)) (λb=>⟨jU (hx b).nd (hx b).ix (hx b).lc (hx b).fn,oE,En oh⟩) Ez hy hl hsw (λ_=>rfl),λY As M H E s kE=>?_⟩
 obtain⟨v,ev,rv⟩:=s.sl.oG hgm;cases rv;refine⟨.int m,ev,(m:Int),rfl,by lia,by lia,λD hD=>?_⟩
 have aL:g.length=Y.length:=s.sl.length;have h0D:z.H0 D=none:=s.cH hD;have s1:=s.aV (xs:=[]) hD;rw[o6];refine⟨λi n σ' H'=>i+n=m/\∃Mb as w,S z (g++List.replicate (k+1) .no) σ' As Mb H'/\az M H Mb H'/\w.length=k/\σ'=Y++(w++[some (.ref D)])/\D∈Mb/\H' D=some (.lst (as.map .ref))/\D∉as/\as.Nodup/\as.length=i/\gw z As Mb H' as (List.replicate i []),⟨m,CB _,D::M,[],List.replicate k none,?_,az.aV hD,i6,rfl,c8,aG,(λh=>nomatch h),yY,rfl,.nil⟩,?_⟩
 . have:=s1.XT (List.replicate k none++[some (.ref D)]);rw[eC,i6]at this;exact this
 .
  rintro i n σ' H' ⟨hin,Mb,as,w,s2,aN,hw,rfl,ZS,hDH,hDn,nd,hal,rl⟩;have nDA:D∉As:=λh=>s.fresh hD (s.sub D h)
  by_cases hi:i<m
  .
   refine .inr ⟨hi,λσ' H'=>∃Mb as w,S z (g++List.replicate (k+1) .no) σ' As Mb H'/\az M H Mb H'/\w.length=k/\σ'=Y++(w++[some (.ref D)])/\D∈Mb/\H' D=some (.lst (as.map .ref))/\D∉as/\as.Nodup/\as.length=i+1/\gw z As Mb H' as (List.replicate (i+1) []),λBg Bh hN=>⟨n - 1,by lia,by lia,hN⟩,λx' H2 hx' bk _=>?_⟩
   obtain⟨rfl,rfl⟩:=hx';have es:(Y++(w++[some (V.ref D)])).set (X.N.length+j) (some (.int (0+(i:Int))))=Y++(w.set j (some (.int (0+(i:Int))))++[some (V.ref D)]):=by rw[<- O1,aL,A8 _ _ (CI _ _),oP,List.set_append_left _ _ ⋯]
   have s3:S z (g++List.replicate (k+1) .no) (Y++(w.set j (some (.int (0+(i:Int))))++[some (V.ref D)])) As Mb H2:=by rw[<- es];exact s2.mO (by rw[<- O1,eQ (CI _ _),oP,List.getElem?_replicate,fN ⋯])
   unfold uX zu;dsimp only;rw[fN rfl];show qE D (Wv _) ((Y++(w++[some (V.ref D)])).set (X.N.length+j) (some (.int (0+(i:Int))))) H2 _;rw[es];refine⟨wP _,λp hp=>?_⟩
   have pD:p≠D:=λe=>by rw[e,hDH]at hp;cases hp
   have pas:∀q∈as,q≠p:=λq hq e=>by
    obtain⟨_,_,_,xs,hx⟩:=rl.mem q hq;rw[e,hp]at hx;cases hx
   have hD1:upd H2 p (.lst []) D=some (.lst (as.map .ref)):=by rw[aC (oQ pD)];exact hDH
   have s4:=s3.aV (xs:=[]) hp;have s5:=s4.GJ (a:=D) (xs':=as.map .ref++[.ref p]) (bP _ ZS) nDA h0D hD1;have eK:az Mb H2 (p::Mb) (upd H2 p (.lst [])):=az.aV hp;have qG:az (p::Mb) (upd H2 p (.lst [])) (p::Mb) (upd (upd H2 p (.lst [])) D (.lst (as.map .ref++[.ref p]))):=az.write (bP _ ZS);refine⟨as.map .ref,hD1,?_,p::Mb,as++[p],_,s5,(aN.trans eK).trans qG,by rw[xI];exact hw,rfl,bP _ ZS,?_,?_,?_,?_,?_⟩
   . rw[eA,hal,nS];lia
   . rw[aG,nN];rfl
   .
    intro h;rcases AI.mp h with h |h
    . exact hDn h
    . exact pD (eP.mp h).symm
   .
    refine y8.mpr ⟨nd,hV.mpr ⟨by simp,yY⟩,λq hq r hr e=>?_⟩
    rw[eP.mp hr]at e;exact pas q hq e
   . rw[eC,hal];rfl
   .
    have r1:=rl.stay (eK.trans qG) λq hq=>⟨bP _ (rl.mem q hq).1,by rw[aC (show q≠D from λe=>hDn (by rw[<- e];exact hq)),aC (pas q hq)]⟩
    rw[show List.replicate (i+1) ([]:List Ev.D)=List.replicate i []++[[]]from List.replicate_succ']
    exact r1.push c8 (λh=>s2.fresh hp (s2.sub p h)) (s2.cH hp) (by rw[aC pD];exact aG) .nil
  .
   have hi':i=m:=by lia
   subst hi';refine .inl ⟨eD _,?_⟩;have s3:=s2.XZ aL λp hp=>(dA.mp (s.jz p hp).1).1
   have hly:iy<Y.length:=by rw[<- aL];exact (dA.mp ZR).1
   exact kE _ _ ⟨As,Mb,D,as,s3.mO ZR,aN,hZ hly,ZS,nDA,h0D,hDH,hDn,nd,rl⟩
end
section
variable{iy im ia ib it:Nat}
theorem yu(hp:PassesOwn (~~~2) X.A X.env X.xe)(hK:z.K=X.K)(hj:j<k)(hN:Names X.N N' scope k)(B:bR X.env.scope scope)(hc:X.calm=true)(hx:∀b:Bk,oZ (X.blk N' scope b) x (X.N.length+j))(hgr:Gl X "range")(hmr:X.mg "range"=none)
  (hm:X.N[im]?=some mn) (vm:mq X.env.scope mn) (dm:(mn==(~~~3))=false) (cm:(mn==("__classdict__":Str))=false) (hgm:g[im]?=some ‹m›) (hm1:m<=1000)
  (Ez:X.N.Nodup) (hy:X.N[iy]?=some y) (hl:X.env.scope.names.lookup y=some .local) (dy:(y==(~~~3))=false) (cy:(y==("__classdict__":Str))=false) (ZR:g[iy]?=some .no)
  (hsw:swapsWith (.ListComp (.List [] lp) [⟨.Name x px,.Call (.Name "range" rp) [.Name mn mp] [] Vs,[],0⟩] scope Si) (some (.Name y py)) ap.line X.env=pure true)
  (na:oZ X a ia) (va:mq X.env.scope a) (da:(a==(~~~3))=false) (ca:(a==("__classdict__":Str))=false) (nb:oZ X b ib) (vb:mq X.env.scope b) (db:(b==(~~~3))=false) (cb:(b==("__classdict__":Str))=false)
  (ht:X.N[it]?=some tn) (vt:mq X.env.scope tn) (dt:(tn==(~~~3))=false) (ct:(tn==("__classdict__":Str))=false) (hgt:g[it]?=some (.dat (.tup ao)))
  (hga:g[ia]?=some .no) (ZQ:g[ib]?=some .no) (hay:ia≠iy) (hby:ib≠iy) (hab:ia≠ib) (l1:(Oz.endLine==OD.line)=true) (l2:(OJ.endLine==Jw.line)=true) (hF:iI ao (List.replicate m [])=some Jx) :
  Cv X z [.Assign [.Name y py] (.ListComp (.List [] lp) [⟨.Name x px,.Call (.Name "range" rp) [.Name mn mp] [] Vs,[],0⟩] scope Si) ap,.For (.Tuple [.Name a pa,.Name b pb] tk Dr) (.Name tn tp) [.Expr (.Call (.Attribute (.Subscript (.Name y y1) (.Name a a1) Vm) "append" Oz) [.Name b b1] [] OD) Vn,.Expr (.Call (.Attribute (.Subscript (.Name y y2) (.Name b b2) Vo) "append" OJ) [.Name a a2] [] Jw) Vp] [] G0,.Return (some (.Name y yr)) rpos] g (.rt (.dat (.lst (Jx.map .lst)))) g:=by
 have vy:mq X.env.scope y:=.inl hl;by_cases O1:g.length=X.N.length
 .
  obtain⟨t1,q1,k1⟩:=Cw (z:=z) hj hN B hc hx hgr hmr O1 hm vm dm cm hgm hm1 Ez hy hl ZR hsw;have q3:PS X (.Return (some (.Name y yr)) rpos) _:=Ec (dF hy vy dy cy);have fin:∀M H (E:Ends) σ' H',oW z M H E g (.rt (.dat (.lst (Jx.map .lst))))->Rows z g iy M H Jx σ' H'->V3 iy σ' H' E.rt:=λM H E σ' H' kE h=>by
   obtain⟨As,M2,ay,as,s,st,e1,hm,hA,h0,ha,nay,nd,rl⟩:=h;obtain⟨M3,s3,k3,k4⟩:=S.zO (ay::as) s λp hp=>by
    rcases d6.mp hp with rfl |hp
    . exact⟨hA,h0⟩
    . exact⟨(rl.mem p hp).2.1,(rl.mem p hp).2.2.1⟩
   exact⟨.ref ay,e1,kE _ σ' As M3 H' s3 (st.trans (az.less k3)) (.lst ⟨k4 _ c8,ha⟩ (rl.reps k3 λp hp=>k4 p (bP _ hp)))⟩
  have mid:∃t,PS X (.For (.Tuple [.Name a pa,.Name b pb] tk Dr) (.Name tn tp) [.Expr (.Call (.Attribute (.Subscript (.Name y y1) (.Name a a1) Vm) "append" Oz) [.Name b b1] [] OD) Vn,.Expr (.Call (.Attribute (.Subscript (.Name y y2) (.Name b b2) Vo) "append" OJ) [.Name a a2] [] Jw) Vp] [] G0) t/\
   ∀M0 H0 Y H (E:Ends),Rows z g iy M0 H0 (List.replicate m []) Y H->(∀σ' H',Rows z g iy M0 H0 Jx σ' H'->E.nx σ' H')->t E Y H:=GZ hp hc hK hy vy dy cy na va da ca nb vb db cb ht vt dt ct hgt hga ZQ hay hby hab l1 l2 hF
  obtain⟨t2,q2,k2⟩:=mid;refine⟨[t1,t2,_],.cons q1 (.cons q2 (.cons q3 .nil)),λu Y As M H E s kE=>?_⟩
  exact k1 Y As M H _ s λσ' H' h'=>k2 M H σ' H' _ h' λσ2 H2 h2=>fin M H _ σ2 H2 kE h2
 .
  have no:∀st:Stmt,PS X st (λ_ Y _=>Y.length≠X.N.length):=λst L s Y H D I h=>absurd I.len h
  exact⟨[_,_,_],.cons (no _) (.cons (no _) (.cons (no _) .nil)),λu Y As M H E s kE=>λe=>O1 (s.sl.length.trans e)⟩
end
end Ev
namespace HT
open PySem PyProof.Rows
end HT
namespace Ev
open L2
mutual
noncomputable def iJ:D->Bool
 |.tup l=>gA l
 |.lst l=>gA l
 |.fix l=>gA l
 |.vg ..=>false
 |_=>true
noncomputable def gA:List D->Bool
 | []=>true
 |d::l=>iJ d&&gA l
end
def jH:G->Bool
 | []=>true
 |.no::g=>jH g
 |.dat d::g=>iJ d&&jH g
 |.own l::g=>gA l&&jH g
theorem vR:∀{l m:List D},gA l=true->gA m=true->gA (l++m)=true
 | [],_,_,h=>h
 |d::l,_,h,k=>by
  have h:(iJ d&&gA l)=true:=h;rw[dE]at h;show (iJ d&&gA (l++_))=true;rw[h.1,vR h.2 k];rfl
section
variable{K:Frag}{M:List Addr}{H:Hp}{q:Addr}{eH:List (List Key×V)}{u:HO}
theorem Rep.G3(hq:H q=some (.dT eH)){d:D}{v:V}(r:Rep K M H d v):iJ d=true->Rep K M (upd H q u) d v:=by
 have ne:∀{b:Addr}{o:HO},H b=some o->(∀l,o≠.dT l)->upd H q u b=some o:=λ{b o} e n=>by
  rw[aC (λz=>by rw[z,hq]at e;cases e;exact n _ rfl)];exact e
 refine Rep.rec (motive_1:=λd v _=>iJ d=true->Rep K M (upd H q u) d v) (motive_2:=λds vs _=>gA ds=true->aI K M (upd H q u) ds vs) (λ_=>.non) (λb _=>.bl b) (λi _=>.int i) (λx _=>.str x) (λt _ ih h=>?_) (λt _ ih h=>?_) (λt _ ih h=>?_) (λn r _=>.emp n (ne r λ_ e=>nomatch e)) (λx n r _=>.Dy x n (ne r λ_ e=>nomatch e)) (λ_ _ _ _ _ h=>Bool.noConfusion (show false=true from h)) (λ_=>.nil) (λ_ _ i1 i2 h=>?_) r
 .
  rcases t with ⟨n,t |⟨o,t⟩⟩ |t
  . exact .tup (.inl ⟨n,.inl (ne t λ_ e=>nomatch e)⟩) (ih h)
  . exact .tup (.inl ⟨n,.inr ⟨o,ne t λ_ e=>nomatch e⟩⟩) (ih h)
  . exact .tup (.inr t) (ih h)
 . exact .lst ⟨t.1,ne t.2 λ_ e=>nomatch e⟩ (ih h)
 .
  rcases t with ⟨n,o,t⟩ |t
  . exact .fix (.inl ⟨n,o,ne t λ_ e=>nomatch e⟩) (ih h)
  . exact .fix (.inr t) (ih h)
 . have h:(iJ _&&gA _)=true:=h;rw[dE]at h;exact .cons (i1 h.1) (i2 h.2)
theorem aI.G3(hq:H q=some (.dT eH)):∀{ds:List D}{vs:List V},aI K M H ds vs->gA ds=true->aI K M (upd H q u) ds vs
 | [],_,r,_=>by cases r;exact .nil
 |d::ds,_,r,h=>by
  have h:(iJ d&&gA ds)=true:=h;rw[dE]at h;cases r with
  |cons a b=>exact .cons (a.G3 hq h.1) (b.G3 hq h.2)
theorem Slots.G3(hq:H q=some (.dT eH)){g:G}{Y:Sg}{As:List Addr}(s:Slots K M H g Y As):jH g=true->Slots K M (upd H q u) g Y As:=by
 induction s with
 |nil=>exact λ_=>.nil
 |no _ ih=>exact λh=>.no (ih h)
 |@dat g Y As v d r _ ih=>intro h;have h:(iJ d&&jH g)=true:=h;rw[dE]at h;exact .dat (r.G3 hq h.1) (ih h.2)
 |@own g Y As a xs ds e r _ ih=>intro h;have h:(gA ds&&jH g)=true:=h;rw[dE]at h;exact .own (by rw[aC (λz=>by rw[z,hq]at e;cases e)];exact e) (aI.G3 hq r h.1) (ih h.2)
end
section
variable{z:Z}{g:G}{Y:Sg}{As M:List Addr}{H:Hp}
theorem S.G3(s:S z g Y As M H){q:Addr}{eH:List (List Key×V)}{u:HO}(hq:H q=some (.dT eH))(hn:q∉M)(h0:z.H0 q=none)(h:jH g=true):S z g Y As M (upd H q u) where
 sl:=s.sl.G3 hq h
 nd:=s.nd
 sub:=s.sub
 own:=s.own
 live:=λm hm=>by
  rcases s.live m hm with ⟨o,e,gr⟩ |e
  . exact .inl ⟨o,by rw[aC (λ(z:m=q)=>hn (by rw[<- z];exact hm))];exact e,gr⟩
  . exact .inr e
 keep:=λb o e hb ht=>by rw[aC (λz=>by rw[z,h0]at e;cases e)];exact s.keep b o e hb ht
 kY:=s.kY
 m0:=s.m0
 bm:=s.bm
 jz:=s.jz
 tab:=λp hp=>(s.tab p hp).keep λb o e n=>by rw[aC (λz=>by rw[z,hq]at e;cases e;exact n trivial)];exact e
 tm:=s.tm
 tt:=s.tt
def gD(k:Nat)(g:G):G:=g++List.replicate (k+1) .no
theorem vU{K:Frag}:∀τ:Sg,Slots K M H (List.replicate τ.length .no) τ []
 | []=>.nil
 |_::τ=>.no (vU τ)
theorem S.wide(s:S z g Y As M H)(τ:Sg):S z (g++List.replicate τ.length .no) (Y++τ) As M H:=by
 have q:=s.sl.append (vU (K:=z.K) (M:=M) (H:=H) τ);rw[n0]at q;have hl:=s.sl.length;refine⟨q,s.nd,s.sub,λi b l e1 e2=>?_,s.live,s.keep,s.kY,s.m0,s.bm,λp hp=>?_,s.tab,s.tm,s.tt⟩
 .
  rcases v6 i g.length with hi |hi
  . rw[dS hi]at e1;rw[dS ⋯]at e2;exact s.own i b l e1 e2
  . rw[eQ hi]at e1;have:=l6 e1;rw[xL]at this;exact absurd this.2 ⋯
 . obtain⟨q1,l,q2⟩:=s.jz p hp;exact⟨by rw[dS (dA.mp q1).1];exact q1,l,by rw[dS (dA.mp q2).1];exact q2⟩
theorem S.narrow{gb:G}{τ:Sg}(s:S z gb (Y++τ) As M H)(hz:∀p∈z.lent,p.1<Y.length):∃A1,S z (gb.take Y.length) Y A1 M H/\∀a∈A1,a∈As:=by
 have hl:=s.sl.length;rw[eC]at hl;have q:=s.sl;rw[<- A7 Y.length gb]at q;obtain⟨σ1,σ2,A1,A2,h1,h2,h3,h4⟩:=q.split;have l1:=h3.length;rw[u8,Nat.min_eq_left ⋯]at l1;obtain⟨rfl,rfl⟩:=List.append_inj h1 l1;subst h2;have tk:∀(j:Nat) (o:Slot),(gb.take Y.length)[j]?=some o->gb[j]?=some o/\j<Y.length:=λj o e=>by
  have hj:=(dA.mp e).1;rw[u8]at hj;have hj':j<Y.length:=fA hj (Nat.min_le_left _ _);rw[pE hj']at e;exact⟨e,hj'⟩
 refine⟨A1,⟨h3,(y8.mp s.nd).1,λb hb=>s.sub b (u4 _ hb),λj b l c1 c2=>?_,s.live,s.keep,s.kY,s.m0,s.bm,λp hp=>?_,s.tab,s.tm,s.tt⟩,λa ha=>u4 _ ha⟩
 . obtain⟨c3,c4⟩:=tk j _ c1;exact s.own j b l c3 (by rw[dS c4];exact c2)
 . obtain⟨c1,l,c2⟩:=s.jz p hp;have tF:=hz p hp;rw[dS tF]at c1;exact⟨c1,l,by rw[pE tF];exact c2⟩
end
section
variable{X:Cx}{z:Z}{tg iter kx vx:Expr}{scope:Scope}{pos:Pos}{N':List Str}{k:Nat}{T:Tg}{aj:List D}{g g1 gE:G}{ks: ~~~5}{ds:List D}
def yw(X:Cx)(z:Z)(e:Expr)(g:G)(ns: ~~~0)(g':G):Prop:=
 ∃t,PE X e t/\∀Y As M H (Q:VK),S z g Y As M H->(∀a H' aF M',S z g' Y aF M' H'->az M H M' H'->a∉M'->H' a=some (.tup (ns.map V.int))->Q (.ref a) H')->t Y H Q
theorem Sj{es:List Expr}{rs:List R}{l:List D}{ns: ~~~0}{x1}{g':G}(h:cZ X z es g rs g')(hd:tB rs=some l)(hi:aR l=some ns)(hl:l.length<=16777216):yw X z (.Tuple es x1 pos) g ns g':=by
 obtain⟨t,q,k⟩:=h;refine⟨_,Em q,λY As M H Q s kk=>k Y As M H _ s λvs H' aF M' s' st R=>?_⟩
 have rr:=tD R hd;have e:=aU rr hi;subst e;exact⟨by rw[<- rr.length];exact oK hl,λp hp=>kk p _ aF M' (s'.laid hp) (st.trans (az.laid hp)) (s'.fresh hp) aG⟩
inductive tQ(T:Tg)(ZT:G->~~~0->G->Prop)(ZV:G->D->G->Prop):List D->List (~~~0)->List D->G->List (~~~0)->List D->G->Prop
 |nil {ks: ~~~5}{ds:List D}{g:G}:tQ T ZT ZV [] ks ds g ks ds g
 |cons {d x:D}{rest ds ds':List D}{ks ks': ~~~5}{ns: ~~~0}{g g1 g2 g3 g':G}:T.set d g=some g1->ZT g1 ns g2->ZV g2 x g3->ns∉ks->ks.length<16777216->jH g3=true->iJ x=true->
   tQ T ZT ZV rest (ks++[ns]) (ds++[x]) g3 ks' ds' g'->tQ T ZT ZV (d::rest) ks ds g ks' ds' g'
theorem Lz{ns: ~~~0}{ks: ~~~5}{vs:List V}(h:ns∉ks):ns.map Sum.inl∉(((ks.map (List.map Sum.inl)).zip vs).map (·.1):List (List Key)):=λhm=>by
 obtain⟨p,p1,p2⟩:=fR.mp hm;obtain⟨n,n1,n2⟩:=fR.mp (C3 (a:=p.1) (b:=p.2) p1).1;rw[p2]at n2;exact h ((List.map_inj_right λa b e=>Sum.inl.inj e).mp n2▸n1)
theorem vV(ns: ~~~0):(ns.map (Sum.inl:Int->Key)).map kV=ns.map V.int:=by rw[List.map_map];rfl
theorem yx(hw:dJ X z tg iter g aj g1)(ht:∀b:Bk,gQ (X.blk N' scope b) z tg T)(hT:∀i∈T.ix,g1.length<=i/\i<g1.length+k)
  (hcp:tQ T (λg ns g'=>∀bk:Bk,yw (X.blk N' scope bk) z kx g ns g') (λg d g'=>∀bk:Bk,aA (X.blk N' scope bk) z vx g (.dat d) g') aj [] [] (gD k g1) ks ds gE) :
  ∃wi,PI X tg iter wi/\∀Y As M H Q,S z g Y As M H->Kn z (gE.take g1.length) Y M H (.dat (.vg ks ds)) Q->sZ (.dT []) X k wi (λb=>Bu (X.blk N' scope b) tg) (λ_=>zu) (λD b=>QF D (Bv (X.blk N' scope b) kx) (Bv (X.blk N' scope b) vx)) Y H Q:=by
 obtain⟨wi,q,kw⟩:=hw;refine⟨wi,q,λY As M H Q s kq=>kw Y As M H _ s λJ H1 aY M1 s1 dH hJ D hD=>?_⟩
 have hl:g1.length=Y.length:=s1.sl.length;have hz:∀p∈z.lent,p.1<Y.length:=λp hp=>(dA.mp (s1.jz p hp).1).1
 have Ju:∀i∈T.ix,Y.length<=i:=λi hi=>by rw[<- hl];exact (hT i hi).1
 have h0:z.H0 D=none:=s1.cH hD;have sb:=(s1.laid (o:=Fd [] []) hD).wide (List.replicate k none++[some (V.ref D)]);rw[show (List.replicate k (none:Option V)++[some (V.ref D)]).length=k+1 by simp]at sb
 have pass:∀{M2:List Addr}{H2:Hp}{u:HO},az M1 H1 M2 H2->az M1 H1 M2 (upd H2 D u):=λst b o e n=>⟨by rw[aC (aO e hD)];exact (st b o e n).1,(st b o e n).2⟩
 refine⟨λi m σ' H'=>i+m=aj.length/\∃gb Ab Mb τ ka da vs,S z gb σ' Ab Mb H'/\az M1 H1 Mb H'/\σ'=Y++τ/\D∉Mb/\H' D=some (Fd ka vs)/\ka.length=vs.length/\aI z.K Mb H' da vs/\gA da=true/\
   tQ T (λg ns g'=>∀bk:Bk,yw (X.blk N' scope bk) z kx g ns g') (λg d g'=>∀bk:Bk,aA (X.blk N' scope bk) z vx g (.dat d) g') (aj.drop i) ka da gb ks ds gE,
  ⟨aj.length,by lia,_,_,_,_,[],[],[],sb,az.laid hD,rfl,s1.fresh hD,aG,rfl,.nil,rfl,hcp⟩,?_⟩
 rintro i m σ' H' ⟨Xm,gb,Ab,Mb,τ,ka,da,vs,s2,aN,rfl,hm,hH,ZW,rr,nda,cp⟩;obtain⟨hgo,hstop⟩:=hJ Mb H' aN;cases e:aj[i]? with
 |none=>
  have hi:i=aj.length:=by have:=oT.mp e;lia
  subst hi;rw[AS]at cp;cases cp;refine .inl ⟨hstop,?_⟩;obtain⟨A1,s3,n3⟩:=s2.narrow hz;rw[<- hl]at s3;exact kq _ H' A1 Mb s3 (dH.trans aN) (.vg hm hH ZW rr)
 |some d=>
  obtain⟨go,yl⟩:=hgo i d e;rw[drop_cons e]at cp;have hi:i<aj.length:=(dA.mp e).1;refine .inr ⟨go,λσ' H'=>∃gb Ab Mb τ ka da vs,S z gb σ' Ab Mb H'/\az M1 H1 Mb H'/\σ'=Y++τ/\D∉Mb/\H' D=some (Fd ka vs)/\ka.length=vs.length/\aI z.K Mb H' da vs/\gA da=true/\
   tQ T (λg ns g'=>∀bk:Bk,yw (X.blk N' scope bk) z kx g ns g') (λg d g'=>∀bk:Bk,aA (X.blk N' scope bk) z vx g (.dat d) g') (aj.drop (i+1)) ka da gb ks ds gE,
   λBg Bh hN=>⟨m - 1,by lia,by lia,hN⟩,λx H2 hx bk _=>?_⟩
  obtain⟨s3,eK,rx⟩:=yl x H2 hx z gb (Y++τ) Ab rfl s2;obtain⟨t,qt,kt⟩:=ht bk;cases cp with
  |cons e0 hk hv hn hz' ng nx rest=>
   refine⟨t,qt,kt d gb _ e0 x _ Ab Mb H2 _ s3 rx λσ4 jC s4 ag=>?_⟩
   dsimp only[zu];rw[fN rfl];obtain⟨τ',rfl⟩:=dP ag Ju;obtain⟨t2,q2,k2⟩:=hk bk;obtain⟨t3,q3,k3⟩:=hv bk;refine⟨t2,q2,k2 _ jC Mb H2 _ s4 λa H5 DG M5 s5 kT na ha=>⟨t3,q3,k3 _ DG M5 H5 _ s5 λv H6 RQ M6 s6 Oo R6=>?_⟩⟩
   have stA:=(eK.trans kT).trans Oo;obtain⟨Vl,nD6⟩:=stA D _ hH hm;refine⟨_,a,_,rfl,Vl,by rw[vV];exact (Oo a _ ha na).1,Lz hn,?_,_,RQ,M6,τ',_,_,vs++[v],s6.G3 Vl nD6 h0 ng,pass ((aN.trans stA)),rfl,nD6,?_,?_,?_,vR nda ?_,rest⟩
   . rw[List.length_zip,eA,<- ZW,Nat.min_self,nS];exact hz'
   .
    rw[aG];unfold Fd;rw[nN,List.zip_append (by rw[eA];exact ZW)]
    rfl
   . rw[eC,eC,ZW];rfl
   . exact aI.append (aI.G3 Vl (rr.stay stA) nda) (.cons (R6.G3 Vl nx) .nil)
   . show (iJ _&&gA [])=true;rw[nx];rfl
theorem G4(B:bR X.env.scope scope)(hc:X.calm=true)(hu:X.A.units<cLine)(hN:Names X.N N' scope k)(hw:dJ X z tg iter g aj g1)(ht:∀b:Bk,gQ (X.blk N' scope b) z tg T)(hT:∀i∈T.ix,g1.length<=i/\i<g1.length+k)
  (hcp:tQ T (λg ns g'=>∀bk:Bk,yw (X.blk N' scope bk) z kx g ns g') (λg d g'=>∀bk:Bk,aA (X.blk N' scope bk) z vx g (.dat d) g') aj [] [] (gD k g1) ks ds gE)
  (hs:∀x,foldedSetIterable iter X.env x=pure x):aA X z (.DictComp kx vx [⟨tg,iter,[],0⟩] scope pos) g (.dat (.vg ks ds)) (gE.take g1.length):=by
 obtain⟨wi,q,kk⟩:=yx hw ht hT hcp;exact⟨_,Fc B hc hu hN q (λb=>⟨jD,oE,lA,lA⟩) hs,kk⟩
noncomputable def O2: ~~~5->List D->~~~0->Option D
 |k::ks,d::ds,n=>if k=n then some d else O2 ks ds n
 |_,_,_=>none
theorem vW{K:Frag}{M:List Addr}{H:Hp}{n: ~~~0}{d:D}:∀{ks: ~~~5}{ds:List D}{vs:List V},aI K M H ds vs->O2 ks ds n=some d->∃v,atK ((ks.map (List.map Sum.inl)).zip vs) (n.map Sum.inl)=some v/\Rep K M H d v
 | [],_,_,_,h=>by symm
 |_::_,[],_,_,h=>by symm
 |k::ks,x::ds,_,r,h=>by
  cases r with
  |cons a b=>
   unfold O2 at h;unfold atK;rw[List.map_cons,AF,List.find?_cons];by_cases e:k=n
   . rw[fN e]at h;symm;subst e;exact⟨_,by rw[l7 (show (k.map Sum.inl,_).1=k.map (Sum.inl:Int->Key)from rfl)];rfl,a⟩
   .
    rw[hU e]at h;obtain⟨v,v1,v2⟩:=vW b h;refine⟨v,?_,v2⟩;rw[show decide ((k.map (Sum.inl:Int->Key),_).1=n.map Sum.inl)=false from pV λq=>e ((List.map_inj_right λa b e=>Sum.inl.inj e).mp q)]
    exact v1
theorem Sl{l:List D}{n: ~~~0}{d:D}(hK:z.K=X.K)(hu:X.A.units+1<cLine)(hi:aR l=some n)(h:O2 ks ds n=some d):Vf X z (.vg ks ds) (.tup l) (.dat d):=by
 refine⟨_,Kr hu,λg Y As M H v1 v2 Q s q1 q2 kk=>?_⟩
 obtain⟨b,ys,rfl,hb,rb⟩:=q2.tup;have e:=aU rb hi;subst e;cases q1 with
 |of q1=>cases q1 with
  |vg na ha hl rr=>obtain⟨v,e1,e2⟩:=vW rr h;exact⟨_,b,_,n.map Sum.inl,v,rfl,rfl,ha,by rw[vV];exact hK▸hb.sq,e1,kk _ H As M s (az.refl _ _) e2⟩
end
section
variable{X:Cx}{z:Z}{g g1:G}{pos:Pos}
def X3:Zq:=λx y H Q=>∃l b xs zs,x=.ref l/\y=.ref b/\H l=some (.lst xs)/\H b=some (.lst zs)/\xs.length+zs.length<=sizeLine/\Q (.ref l) (upd H l (.lst (xs++zs)))
theorem Sq:PIp X .Add X3:=by
 intro L s Y H x y v u Q I r1 r2 h;obtain⟨l,b,xs,zs,rfl,rfl,hH,hB,hz,q⟩:=h;cases r1;cases r2;obtain⟨z,its,n,r,hl,e⟩:=I.sV hH;obtain⟨z2,g8,n2,r2,hl2,e2⟩:=I.sV hB;have za:its.toArray.size+g8.toArray.size<=sizeLine:=by rw[dC,dC];lia
 have vd : ¬ (!its.toArray.isEmpty&&Builtin.List.listTooLong (its.toArray.size+g8.toArray.size))=true:=by rw[oB za,Do];exact i8
 have ta:s.TypeIs (.ref l) "list" :=⟨_,e,rfl⟩;have tb:s.TypeIs (.ref b) "list" :=⟨_,e2,rfl⟩;have lk:=PySem.F.slot_list_iadd.lookup;have Ss:fillsInplaceSlot (.type "list") "add" (Operator.Add==.Add)=pure false:=by
  unfold fillsInplaceSlot;show (typeLookup (.type "list") (dunderI "add") >>= λfi=>pure (fi.isSome&&!isSeqSlot fi))=pure false
  rw[lk,pure_bind,show isSeqSlot (some (Value.builtin "list.__iadd__"))=true by decide +kernel]
  rfl
 have hsi:seqSlot? (.type "list") (dunderI "add")=pure (some (.builtin "list.__iadd__")):=PySem.seqSlot_of lk (by decide +kernel)
 unfold inplaceOp;refine lL (aS (Co ta (aS (wpAny_of_eq Ss ?_))));show wpAny _ _ (if false=true then _ else _) _ _ s
 rw[hU i8];refine aS (wpAny_binaryOp1_none (nm:= "add") ta tb noFill_list_add ?_);refine aS (wpAny_of_eq hsi (aS (C1 ?_)));refine BH PySem.F.slot_list_iadd ta PySem.F.entry_list_iadd (PySem.F.args_list_iadd_2 _ _) (AutoSeq1.list___iadd___list_list_0 l its.toArray n b g8.toArray n2 vd (by rw[dC];lia) ⋯) ⟨e,e2,?_⟩
 refine⟨.ref l,_,I.Kg (its':=its++g8) hH e ⋯ (r.append r2) ?_,rfl,q⟩;rw[eC];lia
theorem LC{i:Nat}{x:Str}{e:Expr}{l0 l m:List D}{pos':Pos}(hn:oZ X x i)(h:aA X z e g (.dat (.lst m)) g1)(hg:g[i]?=some (.own l0))(uM:g1[i]?=some (.own l))(hl:l.length+m.length<=16777216) :
  iu X z (.AugAssign (.Name x pos') .Add e pos) g .nx (g1.set i (.own (l++m))):=by
 obtain⟨t,q,k⟩:=h;refine⟨_,Ef hn.nd hn.ix hn.lc q Sq hn.fn,λY As M H E s kk=>?_⟩
 obtain⟨a,xs,e1,e2,e3,e4⟩:=s.sl.at hg;refine⟨.ref a,e1,k Y As M H _ s λv H' aF M' s' st R=>?_⟩
 obtain⟨b,ys,f1,f2,f3,f4⟩:=s'.sl.at uM;rw[e1]at f1;injection f1 with f1;injection f1 with f1;injection f1 with f1;subst f1;cases R with
 |@lst _ c zs hc rr=>
  refine⟨a,c,ys,zs,rfl,rfl,f3,hc.2,by rw[<- f4.length,<- rr.length,nS];exact hl,?_⟩
  obtain⟨s2,aN⟩:=s'.write uM e1 (f4.append rr);have es:Y.set i (some (V.ref a))=Y:=by
   apply List.ext_getElem?;intro j;by_cases hj:i=j
   . subst hj;rw[hZ (dA.mp e1).1,e1]
   . rw[gL hj]
  rw[es];exact kk _ aF M' _ s2 (st.trans aN)
theorem Sv{i j:Int}(h0:0<=j)(h1:j<=1000000)(h2:i.natAbs<2 ^ 64):mF X z (binaryOp .LShift) (.int i) (.int j) (.dat (.int (i * 2 ^ j.toNat))):=by
 refine⟨λx y H Q=>x=.int i/\y=.int j/\Q (.int (i * 2 ^ j.toNat)) H,λL s Y H x y v u Q I r1 r2 h=>?_,λg Y As M H v1 v2 Q s q1 q2 kk=>⟨q1.int,q2.int,kk _ H As M s (az.refl _ _) (.int _)⟩⟩
 obtain⟨rfl,rfl,q⟩:=h;obtain⟨t,rfl⟩:=r1;obtain⟨t',rfl⟩:=r2;exact lshift_int_small h0 h1 h2 ⟨.int _,H,I.tok _,⟨_,rfl⟩,q⟩
end
open L2 PySem.W
def nF(n: ~~~0): ~~~5->List Int
 | []=>n
 |m::l=>nF (if HT.lexLt m n then m else n) l
theorem rH:∀(l: ~~~5) (n m: ~~~0),nF n (l++[m])=if HT.lexLt m (nF n l)then m else nF n l
 | [],_,_=>rfl
 |_::l,_,m=>rH l _ m
abbrev Cy (qqz: ~~~5) (i j:Nat):Bool:=HT.lexLt (qqz.getD i []) (qqz.getD j [])
theorem rJ(n: ~~~0)(l: ~~~5):∀k,k<=l.length->argBest (Cy (n::l)) k<=k/\(n::l).getD (argBest (Cy (n::l)) k) []=nF n (l.take k)
 | 0,_=>⟨eD _,rfl⟩
 |k+1,hk=>by
  obtain⟨h0,h1⟩:=rJ n l k (Nat.le_of_succ_le hk);have hlt:k<l.length:=hk;have e:(n::l).getD (k+1) []=l[k]:=by simp[hlt]
  have e2:l.take (k+1)=l.take k++[l[k]]:=List.take_succ_eq_append_getElem hlt;rw[e2,rH,<- h1,<- e];show (if Cy (n::l) (k+1) (argBest (Cy (n::l)) k)then k+1 else argBest (Cy (n::l)) k)<=k+1/\(n::l).getD (if Cy (n::l) (k+1) (argBest (Cy (n::l)) k)then k+1 else argBest (Cy (n::l)) k) []=_
  unfold Cy;split
  . exact⟨eD _,rfl⟩
  . exact⟨Nat.le_succ_of_le h0,rfl⟩
section
variable{prog:Program}{w:World}{A:Around}{R:Result->Shared->Prop}{I S:Addr}{fp wr:List Addr}{n:Nat}{P:Nat->Value->Prop}{St:Nat->Heap->Prop}{h0:Heap}{bt:Nat->Nat->Bool}
abbrev LK(h h':Heap):Prop:=∀b o,h.get? b=some o->h'.get? b=some o
def zP(prog:Program)(w:World)(A:Around)(h0:Heap)(P:Nat->Value->Prop)(bt:Nat->Nat->Bool):Prop:=
 ∀i j u v (s:Shared) (Q E:Value->Shared->Prop),LK h0 s.heap->P i u->P j v->Q (.bool (bt i j)) s->wpAny (model prog w) A (richCompare .Lt u v) Q E s
theorem yy(W:Walks prog w A.in1 I fp wr n P St)(hc:zP prog w A.in1 h0 P bt)(hS:S∉fp)(hw:∀b o,h0.get? b=some o->b∉wr/\b≠S):∀(k j:Nat) (s:Shared) (v:Value) (c:Nat),n - (j+1)=k->j+1<=n->St (j+1) s.heap->P (argBest bt j) v->LK h0 s.heap->
   s.heap.get? S=some { cls:=.type "list",dict:=none,data:=.seq #[v,v] c,slots:=#[]}->(∀u h tk,P (argBest bt (n - 1)) u->LK h0 h->R (.ok (.ret u)) { s with heap:=h,toks:=tk})->
   codeAny (model prog w) A (.builtin "min.loop" ⟨[.ref I,.none,.ref S],[]⟩) R s:=by
 have ZX:S∉wr:=λz=>hS (W.sub _ z)
 have nm:(toString "min" ++ toString ".loop":String) = "min.loop" :=by decide
 intro k
 induction k with
 |zero=>
  intro j s v c hk hj st hp old oS fin;obtain rfl:n=j+1:=by lia
  refine BQ F.entry_min_loop ?_;rw[Around.under_plainId AD _];refine aS (tS oS rfl ?_);refine aS (wpAny_tryCatch (W.done s _ _ st λh tk kp=>?_))
  refine aS (wpAny_updateSeq (kp S _ ZX oS) rfl (aS (B9 (d5 ?_))));exact fin v _ tk hp λb o e=>(lS _ _ (oQ (hw b o e).2)).trans (kp b o (hw b o e).1 (old b o e))
 |succ k ih=>
  intro j s v c hk hj st hp old oS fin;have hlt:j+1<n:=by lia
  refine BQ F.entry_min_loop ?_;rw[Around.under_plainId AD _];refine aS (tS oS rfl ?_);refine aS (wpAny_tryCatch (W.item (j+1) s _ _ hlt st λu h tk hu aN kp=>?_))
  have Vt:=kp S _ ZX oS;have Sw:LK h0 h:=λb o e=>kp b o (hw b o e).1 (old b o e)
  show wpAny _ _ (tryCatch (holding [u,u] (richCompare .Lt u v >>= _)) _ >>= _) _ _ _;refine aS (wpAny_tryCatch (lL (aS (hc (j+1) (argBest bt j) u v _ _ _ Sw hu hp ?_))));refine aS (lL (nV ?_));refine aS (B9 (d5 ?_));cases hb:bt (j+1) (argBest bt j)with
  |true=>
   simp only[yA];refine aS (wpAny_updateSeq Vt rfl (aS (B9 ?_)));rw[nm];refine d5 ⟨plainId_quiet AD _,ih (j+1) _ u _ ⋯ hlt (W.frame _ _ _ aN λb hb o e=>?_) (by simp only[argBest,hb,yA];exact hu) (λb o e=>?_) (wT _ Vt rfl) fin⟩
   . exact (lS _ _ (λz:S=b=>hS (z▸hb))).trans e
   . exact (lS _ _ (oQ (hw b o e).2)).trans (Sw b o e)
  |false=>simp only[AV,C9];refine aS (B9 ?_);rw[nm];exact d5 ⟨plainId_quiet AD _,ih (j+1) _ v c ⋯ hlt aN (by simp only[argBest,hb,AV,C9];exact hp) Sw Vt fin⟩
theorem vX(W:Walks prog w A.in1 I fp wr n P St)(hc:zP prog w A.in1 h0 P bt)(hS:S∉fp)(hw:∀b o,h0.get? b=some o->b∉wr/\b≠S)(hn:0<n){s:Shared}{c:Nat}(st:St 0 s.heap)(old:LK h0 s.heap)
  (oS:s.heap.get? S=some { cls:=.type "list",dict:=none,data:=.seq #[] c,slots:=#[]}) (fin:∀u h tk,P (argBest bt (n - 1)) u->LK h0 h->R (.ok (.ret u)) { s with heap:=h,toks:=tk}) :
   codeAny (model prog w) A (.builtin "min.loop" ⟨[.ref I,.none,.ref S],[]⟩) R s:=by
 have ZX:S∉wr:=λz=>hS (W.sub _ z)
 have nm:(toString "min" ++ toString ".loop":String) = "min.loop" :=by decide
 refine BQ F.entry_min_loop ?_;rw[Around.under_plainId AD _];refine aS (tS oS rfl ?_);refine aS (wpAny_tryCatch (W.item 0 s _ _ hn st λu h tk hu aN kp=>?_))
 have Vt:=kp S _ ZX oS;show wpAny _ _ (updateSeq S (λ_=>#[u,u]) >>= _) _ _ _
 refine aS (wpAny_updateSeq Vt rfl ?_);rw[nm];refine d5 ⟨plainId_quiet AD _,yy W hc hS hw _ 0 _ u _ rfl hn (W.frame _ _ _ aN λb hb o e=>?_) hu (λb o e=>?_) (wT _ Vt rfl) fin⟩
 . exact (lS _ _ (λz:S=b=>hS (z▸hb))).trans e
 . exact (lS _ _ (oQ (hw b o e).2)).trans (kp b o (hw b o e).1 (old b o e))
theorem pA{x:Value}{Q E:Value->Shared->Prop}{s:Shared}
  (h:wpAny (model prog w) A.in1 (pyIter x) (λit t=>∃I fp wr n P St bt,it=.ref I/\Walks prog w A.in1 I fp wr n P St/\St 0 t.heap/\(∀b∈fp,b<t⁻¹)/\0<n/\zP prog w A.in1 s.heap P bt/\LK s.heap t.heap/\(∀b o,s.heap.get? b=some o->b∉wr)/\
   ∀v h' tk,P (argBest bt (n - 1)) v->LK s.heap h'->Q v { t with heap:=h',toks:=tk}) E s) :
  wpAny (model prog w) A (call (.builtin "min") [x]) Q E s:=by
 have nm:(toString "min" ++ toString ".loop":String) = "min.loop" :=by decide
 refine call_function_tree F.kind_min F.plain_min F.entry_min (F.args_min1 _) ?_;refine aS (wpAny_of_eq (show Builtin.Builtins.bindParams "min" ["key", "default"] 0 ⟨[],[]⟩=pure [none,none]from rfl) ?_)
 refine aS (d5 ?_);refine aS (nE h (λit t z=>?_) λ_ _ e=>e)
 obtain⟨I,fp,wr,n,P,St,bt,rfl,W,st,hf,hn,hc,old,hw,fin⟩:=z;refine aS (nK ?_);have hS:t⁻¹∉fp:=λz=>mP _ (hf _ z)
 rw[nm];exact d5 ⟨plainId_quiet AD _,vX W hc hS (λb o e=>⟨hw b o e,l4 (eR (old b o e))⟩) hn (W.frame _ _ _ st λb _ o e=>b0 _ e) (λb o e=>b0 _ (old b o e)) (eJ _ rfl) fin⟩
end
section
variable{X:Cx}{z:Z}
theorem Cz(hc:X.calm=true)(hu:X.A.units+1<cLine):fz X (.builtin "min") (λxs H Q=>∃(p:Addr) (ys:List V) (n: ~~~0) (l: ~~~5),xs=[.ref p]/\(cB X.K H p ys\/fV X.K H p ys)/\jq X.K H ys (n::l)/\
  ∀i,i<ys.length->(n::l).getD i []=nF n l->Q (ys.getD i .non) H):=by
 intro L s Y H xs us Q I r h;obtain⟨p,ys,n,l,rfl,hp,ht,q⟩:=h;obtain⟨u,rfl,rx⟩:=vals1 r;cases rx;have hh:X.A.in1.handled=none:=I.ok.hd hc;have cmp:∀its:List Value,Vals ys its->zP X.prog X.w X.A.in1 s.heap (λi v=>its.toArray[i]?=some v) (Cy (n::l)):=λits rv=>by
  intro i j u v s' Q E old hi hj hQ;have t:=ht.real I rv;have hi:its[i]?=some u:=by simpa using hi
  have hj:its[j]?=some v:=by simpa using hj
  have li:=(dA.mp hi).1;have lj:=(dA.mp hj).1;obtain⟨a,a2,ea,ta,ia⟩:=(t.at li).keep old;obtain⟨b,b2,eb,tb,ib⟩:=(t.at lj).keep old;rw[gN,hi]at ea;rw[gN,hj]at eb;obtain rfl:u=.ref a:=ea;obtain rfl:v=.ref b:=eb;exact HT.oz ta tb ia ib hu hQ
 have fin:∀(its:List Value) (v:Value) (h':Heap) (tk:Nat),Vals ys its->its.toArray[argBest (Cy (n::l)) (its.toArray.size - 1)]?=some v->LK s.heap h'->EP X L Y Q v { s with heap:=h',toks:=tk}:=λits v h' tk rv hv hk=>by
  have hl:its.length=l.length+1:=(ht.real I rv).length;obtain⟨b1,b2⟩:=rJ n l l.length (eD _);rw[List.take_length]at b2;rw[dC,hl,Nat.add_sub_cancel]at hv;have hv:its[argBest (Cy (n::l)) l.length]?=some v:=by simpa using hv
  have hy:argBest (Cy (n::l)) l.length<ys.length:=by rw[rv.length];lia
  have rel:=rD rv hy;rw[gN (l:=its),hv]at rel;exact⟨_,H,I.kept hk,rel,q _ hy b2⟩
 have pos:∀its:List Value,Vals ys its->0<its.toArray.size:=λits rv=>by rw[dC,(ht.real I rv).length];exact Nat.succ_pos _
 have ow:∀(b:Addr) (o:Obj),s.heap.get? b=some o->b∉[s⁻¹]:=λb o e hm=>by
  have:b=s⁻¹:=by simpa using hm
  exact absurd (eR e) (by rw[this];exact mP _)
 have fpl:∀{hlt:p<s⁻¹}{o:Obj},∀b∈[s⁻¹,p],b<(s.heap.push o).objs.size:=λ{hlt o} b hb=>by
  rw[mM];simp only[d6,kS,yB]at hb;rcases hb with rfl |rfl
  . exact mE _
  . exact y6 hlt
 rcases hp with hp |hp
 .
  obtain⟨its,rv,pl,hz⟩:=I.list hp;have hlt:p<s⁻¹:=by obtain⟨_,e,_⟩:=pl.isList;exact eR e
  refine pA (AK pl.isList ?_);exact⟨s⁻¹,_,_,_,_,_,_,rfl,Walks.list (A:=X.A.in1) hh s⁻¹ p (l4 hlt) its.toArray,⟨⟨_,eJ _ rfl,rfl,rfl⟩,pl.isList.push _⟩,fpl (hlt:=hlt),pos its rv,cmp its rv,λb o e=>b0 _ e,ow,λv h' tk hP hk=>fin its v h' tk rv hP hk⟩
 .
  obtain⟨its,rv,pl,hz⟩:=I.tuple hp;have hlt:p<s⁻¹:=by obtain⟨_,e,_⟩:=pl;exact eR e
  have Oq:s.heap.IsTuple p its.toArray:=pl;refine pA (t7 Oq ?_);exact⟨s⁻¹,_,_,_,_,_,_,rfl,Walks.tuple (A:=X.A.in1) hh s⁻¹ p (l4 hlt) its.toArray,⟨⟨_,eJ _ rfl,rfl,rfl⟩,IsTup.keeps Oq λb o e=>b0 _ e⟩,fpl (hlt:=hlt),pos its rv,cmp its rv,λb o e=>b0 _ e,ow,λv h' tk hP hk=>fin its v h' tk rv hP hk⟩
theorem LQ{d:D}{l:List D}{n: ~~~0}{ns: ~~~5}(hc:X.calm=true)(hu:X.A.units+1<cLine)(hK:z.K=X.K)(h:bx d=some l)(hi:g9 l=some (n::ns)):CallD X z (.builtin "min") [d] (.dat (.tup ((nF n ns).map .int))):=by
 refine⟨_,Cz hc hu,λg Y As M H vs Q s p k=>?_⟩
 obtain⟨v,rfl,pv⟩:=p.one;have main:∀(a:Addr) (xs:List V),aI z.K M H l xs->(cB X.K H a xs\/fV X.K H a xs)->∃(p:Addr) (ys:List V) (n: ~~~0) (l: ~~~5),[V.ref a]=[.ref p]/\(cB X.K H p ys\/fV X.K H p ys)/\jq X.K H ys (n::l)/\∀i,i<ys.length->(n::l).getD i []=nF n l->Q (ys.getD i .non) H:=λa xs rr hq=>by
  obtain⟨t1,t2,t3⟩:=rF rr hi;refine⟨a,xs,n,ns,rfl,hq,hK▸t1,λi hl e=>?_⟩
  have hd:i<l.length:=by rw[rr.length];exact hl
  obtain⟨v,e1,e2⟩:=rr.get (i:=i) (d:=l[i]) (by simp[hd])
  have q1:l[i]=.tup ((nF n ns).map .int):=by
   have hn:i<(n::ns).length:=by rw[t3,eA]at hd;exact hd
   rw[<- e,gN,mB hn];simp only[t3,List.getElem_map];rfl
  have q2:xs.getD i .non=v:=by rw[gN,e1];rfl
  rw[q2];exact k _ _ As M s (az.refl _ _) (q1▸e2)
 cases d with
 |lst m=>symm;obtain⟨a,xs,rfl,e1,e2⟩:=pv.list;exact main a xs e2 (.inl (cB.of e1))
 |tup m=>symm;obtain⟨a,xs,rfl,e1,e2⟩:=pv.tup;exact main a xs e2 (.inr (hK▸e1.sq))
 |fix m=>symm;obtain⟨a,xs,rfl,e1,e2⟩:=pv.fix;exact main a xs e2 (.inl (hK▸e1.sq))
 |_=>symm
end
inductive Bl where
 |len |list |tuple |max |min |str |all |sorted |sum |any
 deriving DecidableEq
inductive Mt where
 |count |index
 deriving DecidableEq
set_option genInjectivity false in
inductive Ex where
 |val (d:D) |slot (i:Nat)
 |bin (op:Operator) (a b:Ex) |cmp (op:CmpOp) (a b:Ex) |chain (a:Ex) (ops:List CmpOp) (l:List Ex)
 |neg (a:Ex) |not (a:Ex) |and (l:List Ex) |or (l:List Ex) |ite (c a b:Ex)
 |tup (l:List Ex) |lst (l:List Ex)
 |ix (a b:Ex) |slice (a:Ex) (lo hi:Option Ex)
 |call (f:Nat) (l:List Ex) |blt (b:Bl) (l:List Ex) |pB (a:Ex) (n:String)
 |comp (n k:Nat) (T:Tg) (it:Ex) (c:Option Ex) (e:Ex)
 |iK (n k:Nat) (T:Tg) (it:Ex) (ks:List Ex) (v:Ex)
 |cK (n k:Nat) (T1:Tg) (ki:Ex) (c1:Option Ex) (T:Tg) (it:Ex) (c:Option Ex) (e:Ex)
 |dD (a:Ex) |cL (a b:Ex) |cT (a:Ex) |fY (a b:Ex)
 |nG (a b c:Ex) |enum (a:Ex) |zip (a b:Ex) |gR (a:Ex) |meth (m:Mt) (o e:Ex)
 |rev (a:Ex)
 |append (i:Nat) (e:Ex) |extend (i:Nat) (e:Ex) |ig (i:Nat) (e:Ex)
set_option genInjectivity false in
inductive Sm where
 |ret (e:Ex) |expr (e:Ex) |set (i:Nat) (e:Ex) |setC (i:Nat) (e:Ex) |tgt (T:Tg) (e:Ex) |item (i:Nat) (j e:Ex) |aug (i:Nat) (op:Operator) (e:Ex)
 |items2 (i:Nat) (x:Ex) (j:Nat) (y:Ex) (e:Ex)
 |ite (c:Ex) (a b:List Sm) |loop (T:Tg) (it:Ex) (b:List Sm) |while (c:Ex) (b:List Sm) |rows (im it iy ia ib:Nat) |stuck
structure Fx where
 np:Nat
 n:Nat
 body:List Sm
def Tg.eT:Tg->Bool
 |.tp _=>true
 |.nm _=>false
noncomputable def jI(i j:Int):Bool:=(decide (-(2 ^ 64)<i)&&decide (i<2 ^ 64))||(decide (-(2 ^ 64)<j)&&decide (j<2 ^ 64))
def lim:Nat:=16777216
noncomputable def kj{α:Type}(f:Int->Int->Option α)(a b:D):Option α:=match a with
 |.int i=>(match b with |.int j=>f i j |_=>none)
 |_=>none
noncomputable def LR(a b:D):Option R:=match a with
 |.int i=>(match b with |.int j=>some (.dat (.int (i+j))) |_=>none)
 |.lst l=>(match b with |.lst m=>if l.length+m.length<=lim then some (.new (l++m))else none |_=>none)
 |.tup l=>(match b with |.tup m=>if l.length+m.length<=lim then some (.dat (.tup (l++m)))else none |_=>none)
 |_=>none
def LW(a:D)(k:Int):Option R:=match a with
 |.int i=>if jI i k=true then some (.dat (.int (i * k)))else none
 |.lst l=>if -(2 ^ 63)<=k/\k<2 ^ 63/\l.length * k.toNat<=lim then some (.new (List.replicate k.toNat l).flatten)else none
 |_=>none
def nI(op:Operator)(a b:D):Option R:=match op with
 |.Add=>LR a b
 |.Sub=>kj (λi j=>some (.dat (.int (i - j)))) a b
 |.Mult=>(match b with |.int k=>LW a k |_=>none)
 |.FloorDiv=>kj (λi j=>if 0<j/\j<1073741824 then some (.dat (.int (i / j)))else none) a b
 |.Mod=>kj (λi j=>if 0<j then some (.dat (.int (i % j)))else none) a b
 |.Pow=>kj (λi j=>if 0<=j/\j<=1000/\i.natAbs<2 ^ 64 then some (.dat (.int (i ^ j.toNat)))else none) a b
 |.LShift=>kj (λi j=>if 0<=j/\j<=1000/\i.natAbs<2 ^ 64 then some (.dat (.int (i * 2 ^ j.toNat)))else none) a b
 |_=>none
def CG:Operator->D->D->Option D
 |.Add,.int i,.int j=>some (.int (i+j))
 |.Sub,.int i,.int j=>some (.int (i - j))
 |.Mult,.int i,.int j=>if jI i j=true then some (.int (i * j))else none
 |_,_,_=>none
def kr(d1 d2:D):Bool:=iZ d1&&iZ d2&&decide (dep d1<=190)
def jJ(d1:D)(l:List D):Bool:=iZ d1&&fS l&&decide (deps l<=190)
def X4(a b:D):Option Bool:=match a with
 |.int i=>(match b with |.int j=>some (decide (i<j)) |_=>none)
 |.tup l=>(match b with |.tup m=>(match aR l with |some ns=>(match aR m with |some ms=>some (HT.lexLt ns ms) |none=>none) |none=>none) |_=>none)
 |_=>none
def fT(op:CmpOp)(d1 d2:D):Option Bool:=match op with
 |.Eq=>if kr d1 d2=true then some (cP d1 d2)else none
 |.NotEq=>if kr d1 d2=true then some (!cP d1 d2)else none
 |.Lt=>X4 d1 d2
 |.LtE=>kj (λi j=>some (decide (i<=j))) d1 d2
 |.Gt=>kj (λi j=>some (decide (i > j))) d1 d2
 |.GtE=>kj (λi j=>some (decide (i ≥ j))) d1 d2
 |.In=>(match bx d2 with |some l=>if jJ d1 l=true then some (l.any λd=>cP d d1)else none |none=>none)
 |.NotIn=>(match bx d2 with |some l=>if jJ d1 l=true then some (!l.any λd=>cP d d1)else none |none=>none)
 |_=>none
def uO:D->D->Option D
 |.lst l,.int i=>eU l i
 |.fix l,.int i=>eU l i
 |.tup l,.int i=>eU l i
 |.vg ks ds,.tup l=>(match aR l with |some n=>O2 ks ds n |none=>none)
 |_,_=>none
def G5(b:Bl)(d:D):Option R:=match b with
 |.len=>(match Xh d with |some n=>some ‹n› |none=>none)
 |.list=>(match bx d with |some l=>some (.new l) |none=>none)
 |.tuple=>(match bx d with |some l=>some (.dat (.tup l)) |none=>none)
 |.min=>(match bx d with |some l=>(match aR l with |some (n::ns)=>some (.dat (.int (iG n ns))) |_=>(match g9 l with |some (n::ns)=>some (.dat (.tup ((nF n ns).map .int))) |_=>none)) |none=>none)
 |.all=>(match d with |.lst l=>(match vj l with |some bs=>some (.dat (.bl (bs.all id))) |none=>none) |_=>none)
 |.sorted=>(match bx d with |some l=>(match aR l with |some ns=>if ns.length<64 then some (.new ((bh ns).map .int))else none |none=>match g9 l with |some d8=>if d8.length<64 then some (.new ((cS dR d8).map λns=>.tup (ns.map .int)))else none |none=>none) |none=>none)
 |.sum=>(match bx d with |some l=>(match aR l with |some ns=>some (.dat (.int ns.sum)) |none=>none) |none=>none)
 |_=>none
def bl2(b:Bl)(d e:D):Option R:=match b with
 |.max=>kj (λi j=>some (.dat (.int (if j > i then j else i)))) d e
 |.min=>kj (λi j=>some (.dat (.int (if j<i then j else i)))) d e
 |_=>none
def jS(b:Bl)(ds:List D):Option R:=match ds with
 | [d]=>G5 b d
 | [d,e]=>bl2 b d e
 |_=>none
def X5:Mt->D->D->Option D
 |.count,d0,d1=>match bx d0 with |some l=>if jJ d1 l=true then some (.int (l.countP λd=>cP d d1:Nat))else none |none=>none
 |.index,_,_=>none
noncomputable def tR(t n:String):Bool:=t==n||(t == "bool" && n == "int")
structure Rn where
 e:List Nat->Nat->Ex->G->Option (R×G)
 t:List Nat->Nat->Ex->G->Option (Bool×G)
 b:List Nat->Nat->List Sm->G->Option (Fl×G)
 x:List Nat->Nat->Ex->G->Option (Nat×G)
 xt:List Nat->Nat->Ex->G->Option (Nat×G)
 xb:List Nat->Nat->List Sm->G->Option (Nat×G)
noncomputable def toD(bor:List Nat):R->G->Option (D×G)
 |.dat d,g=>some (d,g)
 |.new l,g=>some (.lst l,g)
 |.var i,g=>if i∈bor then none else match g[i]? with |some (.own l)=>some (.lst l,g.set i (.dat (.lst l))) |_=>none
noncomputable def norm:R->R
 |.new l=>.dat (.lst l)
 |.dat d=>.dat d
 |.var i=>.var i
section
variable(rn:Rn)(bor:List Nat)(k:Nat)
noncomputable def eE(e:Ex)(g:G):Option (D×G):=match rn.e bor k e g with
 |some (r,g1)=>toD bor r g1
 |none=>none
noncomputable def ku:List Ex->G->Option (List D×G)
 | [],g=>some ([],g)
 |e::es,g=>match eE rn bor k e g with
  |some (d,g1)=>match ku es g1 with
   |some (ds,g2)=>some (d::ds,g2)
   |none=>none
  |none=>none
def argsR:List Ex->G->Option (List R×G)
 | [],g=>some ([],g)
 |e::es,g=>match rn.e bor k e g with
  |some (r,g1)=>match argsR es g1 with
   |some (rs,g2)=>some (norm r::rs,g2)
   |none=>none
  |none=>none
def DN:D->List CmpOp->List Ex->G->Option (Bool×G)
 |d1,[op],[b],g=>match eE rn bor k b g with
  |some (d2,g1)=>match fT op d1 d2 with |some c=>some (c,g1) |none=>none
  |none=>none
 |d1,op::op'::ops,b::b'::bs,g=>match eE rn bor k b g with
  |some (d2,g1)=>match fT op d1 d2 with
   |some true=>DN d2 (op'::ops) (b'::bs) g1
   |some false=>some (false,g1)
   |none=>none
  |none=>none
 |_,_,_,_=>none
noncomputable def G6:List Ex->G->Option (R×G)
 | [],_=>none
 | [a],g=>rn.e bor k a g
 |a::b::l,g=>match rn.e bor k a g with
  |some (.dat (.bl true),g1)=>G6 (b::l) g1
  |some (.dat (.bl false),g1)=>some (.dat (.bl false),g1)
  |_=>none
noncomputable def X6:List Ex->G->Option (R×G)
 | [],_=>none
 | [a],g=>rn.e bor k a g
 |a::b::l,g=>match rn.e bor k a g with
  |some (.dat (.bl false),g1)=>X6 (b::l) g1
  |some (.dat (.bl true),g1)=>some (.dat (.bl true),g1)
  |_=>none
noncomputable def vY:List Ex->G->Option (Bool×G)
 | [],_=>none
 | [a],g=>rn.t bor k a g
 |a::b::l,g=>match rn.t bor k a g with
  |some (true,g1)=>vY (b::l) g1
  |some (false,g1)=>some (false,g1)
  |none=>none
noncomputable def G7:List Ex->G->Option (Bool×G)
 | [],_=>none
 | [a],g=>rn.t bor k a g
 |a::b::l,g=>match rn.t bor k a g with
  |some (false,g1)=>G7 (b::l) g1
  |some (true,g1)=>some (true,g1)
  |none=>none
noncomputable def zQ:Option Ex->G->Option (Option Int×G)
 |none,g=>some (none,g)
 |some e,g=>match eE rn bor k e g with
  |some (.int i,g1)=>some (some i,g1)
  |_=>none
noncomputable def DP(j:Int):Bool:=decide (-(2 ^ 62)<=j)&&decide (j<2 ^ 62)
def vZ(j:Int):Bool:=decide (-(2 ^ 30)<=j)&&decide (j<2 ^ 30)
def cD(tp:Bool)(it:Ex)(g:G):Option (List D×G):=match it with
 |.dD a=>match eE rn bor k a g with
  |some (.int j,g1)=>if DP j=true then some (bK 0 j.toNat,g1)else none
  |_=>none
 |.cL a b=>match eE rn bor k a g with
  |some (.int c,g1)=>match eE rn bor k b g1 with
   |some (.int j,g2)=>if DP c=true/\DP j=true then some (bK c (j - c).toNat,g2)else none
   |_=>none
  |_=>none
 |.nG a b c=>match eE rn bor k a g with
  |some (.int i,g1)=>match eE rn bor k b g1 with
   |some (.int j,g2)=>match eE rn bor k c g2 with
    |some (.int s,g3)=>if vZ i=true/\vZ j=true/\vZ s=true/\0<s then some (qH i s (lG i j s),g3)else none
    |_=>none
   |_=>none
  |_=>none
 |.zip a b=>if tp=true then match ku rn bor k [a,b] g with
  |some ([d1,d2],g1)=>match bx d1,bx d2 with |some l,some m=>if isTup d1=isTup d2 then some (vP l m,g1)else none |_,_=>none
  |_=>none
  else none
 |.enum a=>if tp=true then match eE rn bor k a g with
  |some (d,g1)=>match bx d with |some l=>some (mL l,g1) |none=>none
  |none=>none
  else none
 |e=>match eE rn bor k e g with
  |some (.tup l,g1)=>some (l,g1)
  |some (.lst l,g1)=>some (l,g1)
  |some (.fix l,g1)=>some (l,g1)
  |_=>none
noncomputable def mR:Option Ex->G->Option (Bool×G)
 |none,g=>some (true,g)
 |some c,g=>rn.t bor k c g
def yz(T:Tg)(last:Nat)(c:Option Ex)(e:Ex):List D->G->Option G
 | [],g=>some g
 |d::l,g=>match T.set d g with
  |none=>none
  |some g1=>match mR rn bor k c g1 with
   |none=>none
   |some (false,g2)=>yz T last c e l g2
   |some (true,g2)=>match eE rn bor k e g2 with
    |none=>none
    |some (x,g3)=>match g3[last]? with
     |some (.own acc)=>if acc.length<lim then yz T last c e l (g3.set last (.own (acc++[x])))else none
     |_=>none
def eV(n kk:Nat)(T:Tg)(it:Ex)(c:Option Ex)(e:Ex)(g:G):Option (List D×G):=match cD rn bor k T.eT it g with
 |none=>none
 |some (aj,g1)=>if g1.length=n/\(T.ix.any λi=>decide (i∈bor))=false then match yz rn bor k T (n+kk) c e aj (gC kk g1)with
   |none=>none
   |some gE=>match gE[n+kk]? with
    |some (.own acc)=>some (acc,gE.take n)
    |_=>none
  else none
def Sx(T:Tg)(ks:List Ex)(v:Ex):List D->List (~~~0)->List D->G->Option ((List (~~~0)×List D)×G)
 | [],ka,da,g=>some ((ka,da),g)
 |d::l,ka,da,g=>match T.set d g with
  |none=>none
  |some g1=>match ku rn bor k ks g1 with
   |none=>none
   |some (m,g2)=>match aR m with
    |none=>none
    |some ns=>match eE rn bor k v g2 with
     |none=>none
     |some (x,g3)=>if ((ka.all λk=>!decide (k=ns))&&(jH g3&&iJ x))=true/\ka.length<lim/\m.length<=lim then Sx T ks v l (ka++[ns]) (da++[x]) g3 else none
def pC(n kk:Nat)(T:Tg)(it:Ex)(ks:List Ex)(v:Ex)(g:G):Option ((List (~~~0)×List D)×G):=match cD rn bor k T.eT it g with
 |none=>none
 |some (aj,g1)=>if g1.length=n/\(T.ix.any λi=>decide (i∈bor))=false then match Sx rn bor k T ks v aj [] [] (gD kk g1)with
   |none=>none
   |some (p,gE)=>some (p,gE.take n)
  else none
def v5(T1:Tg)(c1:Option Ex)(T:Tg)(it:Ex)(c:Option Ex)(e:Ex)(last:Nat):List D->G->Option G
 | [],g=>some g
 |d::l,g=>match T1.set d g with
  |none=>none
  |some g1=>match mR rn bor k c1 g1 with
   |none=>none
   |some (false,g2)=>v5 T1 c1 T it c e last l g2
   |some (true,g2)=>match cD rn bor k T.eT it g2 with
    |none=>none
    |some (aj,g3)=>match yz rn bor k T last c e aj g3 with
     |none=>none
     |some g4=>v5 T1 c1 T it c e last l g4
def jK(n kk:Nat)(T1:Tg)(ki:Ex)(c1:Option Ex)(T:Tg)(it:Ex)(c:Option Ex)(e:Ex)(g:G):Option (List D×G):=match cD rn bor k T1.eT ki g with
 |none=>none
 |some (aj,g1)=>if g1.length=n/\((T1.ix++T.ix).any λi=>decide (i∈bor))=false then match v5 rn bor k T1 c1 T it c e (n+kk) aj (gC kk g1)with
   |none=>none
   |some gE=>match gE[n+kk]? with
    |some (.own acc)=>some (acc,gE.take n)
    |_=>none
  else none
def bG(fx:Fx)(k':Nat)(rs:List R)(g1:G):Option (R×G):=
 if rs.length=fx.np/\((vars 0 rs).map (·.2)).Nodup then match eu rs g1 with
  |none=>none
  |some gs=>match rn.b ((vars 0 rs).map (·.1)) k' fx.body (gn fx.n gs)with
   |some (.rt r,gc)=>match back (vars 0 rs) gc g1 with
    |some gO=>match gZ ((vars 0 rs).map (·.1)) gc r with |some r'=>some (r',gO) |none=>none
    |none=>none
   |some (.nx,gc)=>match back (vars 0 rs) gc g1 with
    |some gO=>some (.dat .non,gO)
    |none=>none
   |_=>none
 else none
def bw(fns:List Fx)(e:Ex)(g:G):Option (R×G):=match e with
 |.val d=>some (.dat d,g)
 |.slot i=>match g[i]? with |some (.dat d)=>some (.dat d,g) |some (.own _)=>some (.var i,g) |_=>none
 |.bin op a b=>match argsR rn bor k [a,b] g with
  |some ([r1,r2],g2)=>match pk r1 g2,pk r2 g2 with
   |some d1,some d2=>match nI op d1 d2 with |some r=>some (r,g2) |none=>none
   |_,_=>none
  |_=>none
 |.cmp op a b=>match argsR rn bor k [a,b] g with
  |some ([r1,r2],g2)=>match pk r1 g2,pk r2 g2 with
   |some d1,some d2=>match fT op d1 d2 with |some c=>some (.dat (.bl c),g2) |none=>none
   |_,_=>none
  |_=>none
 |.chain a ops l=>match eE rn bor k a g with
  |some (d1,g1)=>match DN rn bor k d1 ops l g1 with |some (c,g2)=>some (.dat (.bl c),g2) |none=>none
  |none=>none
 |.neg a=>match eE rn bor k a g with |some (.int i,g1)=>some (.dat (.int (-i)),g1) |_=>none
 |.not a=>match rn.e bor k a g with |some (.dat (.bl c),g1)=>some (.dat (.bl (!c)),g1) |_=>none
 |.and l=>G6 rn bor k l g
 |.or l=>X6 rn bor k l g
 |.ite c a b=>match rn.t bor k c g with
  |some (true,g1)=>rn.e bor k a g1
  |some (false,g1)=>rn.e bor k b g1
  |none=>none
 |.tup l=>match ku rn bor k l g with |some (ds,g1)=>if ds.length<=lim then some (.dat (.tup ds),g1)else none |none=>none
 |.lst l=>match ku rn bor k l g with |some (ds,g1)=>if ds.length<=lim then some (.new ds,g1)else none |none=>none
 |.ix a b=>match argsR rn bor k [a,b] g with
  |some ([r1,r2],g2)=>match pk r1 g2,pk r2 g2 with
   |some d1,some d2=>match uO d1 d2 with |some d=>some (.dat d,g2) |none=>none
   |_,_=>none
  |_=>none
 |.slice a lo hi=>match rn.e bor k a g with
  |some (r,g1)=>match zQ rn bor k lo g1 with
   |some (i,g2)=>match zQ rn bor k hi g2 with
    |some (j,g3)=>match norm r with
     |.dat (.tup l)=>some (.dat (.tup (lB l i j)),g3)
     |.dat (.fix l)=>some (.new (lB l i j),g3)
     |r'=>match pk r' g3 with |some (.lst l)=>some (.new (lB l i j),g3) |_=>none
    |none=>none
   |none=>none
  |none=>none
 |.call f l=>match fns[f]?,k with
  |some fx,k'+1=>match argsR rn bor k l g with
   |some (rs,g1)=>bG rn fx k' rs g1
   |none=>none
  |_,_=>none
 |.blt b l=>match argsR rn bor k l g with
  |some (rs,g1)=>match qF rs g1 with
   |some ds=>match jS b ds with |some r=>some (r,g1) |none=>none
   |none=>none
  |none=>none
 |.pB a n=>match rn.e bor k a g with
  |some (r,g1)=>match pk (norm r) g1 with |some d=>some (.dat (.bl (tR (vn d) n)),g1) |none=>none
  |none=>none
 |.comp n kk T it c e=>match eV rn bor k n kk T it c e g with |some (acc,g1)=>some (.new acc,g1) |none=>none
 |.iK n kk T it ks v=>match pC rn bor k n kk T it ks v g with |some (p,g1)=>some (.dat (.vg p.1 p.2),g1) |none=>none
 |.cK n kk T1 ki c1 T it c e=>match jK rn bor k n kk T1 ki c1 T it c e g with |some (acc,g1)=>some (.new acc,g1) |none=>none
 |.rev a=>match rn.e bor k a g with
  |some (r,g1)=>match norm r with
   |.dat (.tup l)=>some (.dat (.tup l.reverse),g1)
   |r'=>match pk r' g1 with |some (.lst l)=>some (.new l.reverse,g1) |_=>none
  |none=>none
 |.append i e=>match g[i]? with
  |some (.own _)=>match eE rn bor k e g with
   |some (d,g1)=>match g1[i]? with |some (.own l)=>if l.length<lim then some (.dat .non,g1.set i (.own (l++[d])))else none |_=>none
   |none=>none
  |_=>none
 |.extend i e=>match g[i]? with
  |some (.own _)=>match eE rn bor k e g with
   |some (.lst m,g1)=>match g1[i]? with |some (.own l)=>if l.length+m.length<=lim then some (.dat .non,g1.set i (.own (l++m)))else none |_=>none
   |_=>none
  |_=>none
 |.ig i e=>match g[i]? with
  |some (.own _)=>match eE rn bor k e g with
   |some (.int j,g1)=>match g1[i]? with
    |some (.own l)=>match nk l.length j with
     |some n=>match l[n]? with |some d=>if l.length<lim then some (.dat d,g1.set i (.own (l.eraseIdx n)))else none |none=>none
     |none=>none
    |_=>none
   |_=>none
  |_=>none
 |.dD _=>none
 |.cL _ _=>none
 |.nG _ _ _=>none
 |.enum _=>none
 |.zip _ _=>none
 |.gR a=>match rn.e bor k a g with
  |some (r,g1)=>match pk (norm r) g1 with
   |some d=>match bx d with
    |some l=>match aR l with
     |some ns=>if ns.length<64 then some (.new ((bh ns).reverse.map .int),g1)else none
     |none=>none
    |none=>none
   |none=>none
  |none=>none
 |.meth m o e=>match rn.e bor k o g with
  |some (r0,g1)=>match pk (norm r0) g1 with
   |some d=>match bx d with
    |some _=>match rn.e bor k e g1 with
     |some (r1,g2)=>match pk (norm r0) g2,pk (norm r1) g2 with
      |some d0,some d1=>match X5 m d0 d1 with |some x=>some (.dat x,g2) |none=>none
      |_,_=>none
     |none=>none
    |none=>none
   |none=>none
  |none=>none
 |.cT a=>match eE rn bor k a g with
  |some (.int j,g1)=>if DP j=true/\j.toNat<=lim then some (.new (bK 0 j.toNat),g1)else none
  |_=>none
 |.fY a b=>match eE rn bor k a g with
  |some (.int c,g1)=>match eE rn bor k b g1 with
   |some (.int j,g2)=>if DP c=true/\DP j=true/\(j - c).toNat<=lim then some (.new (bK c (j - c).toNat),g2)else none
   |_=>none
  |_=>none
def stepT(e:Ex)(g:G):Option (Bool×G):=match e with
 |.cmp op a b=>match argsR rn bor k [a,b] g with
  |some ([r1,r2],g2)=>match pk r1 g2,pk r2 g2 with
   |some d1,some d2=>match fT op d1 d2 with |some c=>some (c,g2) |none=>none
   |_,_=>none
  |_=>none
 |.chain a ops l=>match eE rn bor k a g with
  |some (d1,g1)=>DN rn bor k d1 ops l g1
  |none=>none
 |.not a=>match rn.t bor k a g with |some (c,g1)=>some (!c,g1) |none=>none
 |.and l=>vY rn bor k l g
 |.or l=>G7 rn bor k l g
 |.ite _ _ _=>none
 |e=>match rn.e bor k e g with
  |some (r,g1)=>match pk (norm r) g1 with
   |some d=>match Lf d with |some c=>some (c,g1) |none=>none
   |none=>none
  |none=>none
def dj(T:Tg)(b:G->Option (Fl×G)):List D->G->Option (Fl×G)
 | [],g=>some (.nx,g)
 |d::l,g=>match T.set d g with
  |none=>none
  |some g0=>match b g0 with
   |none=>none
   |some (.nx,g1)=>dj T b l g1
   |some (.ct,g1)=>dj T b l g1
   |some (.bk,g1)=>some (.nx,g1)
   |some (.rt r,g1)=>some (.rt r,g1)
noncomputable def xB(c:G->Option (Bool×G))(b:G->Option (Fl×G)):Nat->G->Option (Fl×G)
 | 0,_=>none
 |n+1,g=>match c g with
  |none=>none
  |some (false,g1)=>some (.nx,g1)
  |some (true,g1)=>match b g1 with
   |none=>none
   |some (.nx,g2)=>xB c b n g2
   |some (.ct,g2)=>xB c b n g2
   |some (.bk,g2)=>some (.nx,g2)
   |some (.rt r,g2)=>some (.rt r,g2)
def aK(st:Sm)(g:G):Option (Fl×G):=match st with
 |.ret e=>match rn.e bor k e g with |some (r,g1)=>some (.rt r,g1) |none=>none
 |.expr e=>match rn.e bor k e g with |some (_,g1)=>some (.nx,g1) |none=>none
 |.set i e=>if i∈bor then none else match rn.e bor k e g with
  |some (.new l,g1)=>if i<g1.length then some (.nx,g1.set i (.own l))else none
  |some (r,g1)=>match toD bor r g1 with |some (d,g2)=>some (.nx,g2.set i (.dat d)) |none=>none
  |none=>none
 |.setC i e=>if i∈bor then none else match e with
  |.comp n kk T it c e=>match eV rn bor k n kk T it c e g with
   |some (acc,g1)=>if i<g1.length then some (.nx,g1.set i (.own acc))else none
   |none=>none
  |.cK n kk T1 ki c1 T it c e=>match jK rn bor k n kk T1 ki c1 T it c e g with
   |some (acc,g1)=>if i<g1.length then some (.nx,g1.set i (.own acc))else none
   |none=>none
  |_=>none
 |.tgt T e=>if T.ix.any (λi=>decide (i∈bor))=true then none else match eE rn bor k e g with
  |some (d,g1)=>match T.set d g1 with |some g2=>some (.nx,g2) |none=>none
  |none=>none
 |.item i j e=>match eE rn bor k e g with
  |some (d,g1)=>match g1[i]? with
   |some (.own _)=>match eE rn bor k j g1 with
    |some (.int n,g2)=>match g2[i]? with
     |some (.own l)=>match nk l.length n with |some m=>some (.nx,g2.set i (.own (l.set m d))) |none=>none
     |_=>none
    |_=>none
   |_=>none
  |none=>none
 |.aug i op e=>if i∈bor then none else match g[i]? with
  |some (.dat d1)=>match eE rn bor k e g with
   |some (d2,g1)=>match CG op d1 d2 with |some d=>some (.nx,g1.set i (.dat d)) |none=>none
   |none=>none
  |some (.own _)=>if op=.Add then match eE rn bor k e g with
    |some (.lst m,g1)=>match g1[i]? with |some (.own l)=>if l.length+m.length<=lim then some (.nx,g1.set i (.own (l++m)))else none |_=>none
    |_=>none
   else none
  |_=>none
 |.items2 i x j y e=>match eE rn bor k e g with
  |some (.tup [d1,d2],g1)=>match g1[i]? with
   |some (.own _)=>match eE rn bor k x g1 with
    |some (.int n1,g2)=>match g2[i]? with
     |some (.own l)=>match nk l.length n1 with
      |some m1=>match (g2.set i (.own (l.set m1 d1)))[j]? with
       |some (.own _)=>match eE rn bor k y (g2.set i (.own (l.set m1 d1)))with
        |some (.int n2,g3)=>match g3[j]? with
         |some (.own l2)=>match nk l2.length n2 with |some m2=>some (.nx,g3.set j (.own (l2.set m2 d2))) |none=>none
         |_=>none
        |_=>none
       |_=>none
      |none=>none
     |_=>none
    |_=>none
   |_=>none
  |_=>none
 |.ite c a b=>match rn.t bor k c g with
  |some (true,g1)=>rn.b bor k a g1
  |some (false,g1)=>rn.b bor k b g1
  |none=>none
 |.loop T it b=>if T.ix.any (λi=>decide (i∈bor))=true then none else match cD rn bor k T.eT it g with
  |some (aj,g1)=>dj T (rn.b bor k b) aj g1
  |none=>none
 |.while c b=>xB (rn.t bor k c) (rn.b bor k b) 100000 g
 |.rows im it iy ia ib=>match g[im]?,g[it]? with
  |some ‹m›,some (.dat (.tup ao))=>match g[iy]?,g[ia]?,g[ib]? with
   |some .no,some .no,some .no=>if 0<=m/\m<=1000 then match iI ao (List.replicate m.toNat [])with |some ll=>some (.rt (.dat (.lst (ll.map .lst))),g) |none=>none else none
   |_,_,_=>none
  |_,_=>none
 |.stuck=>none
def jr:List Sm->G->Option (Fl×G)
 | [],g=>some (.nx,g)
 |st::rest,g=>match aK rn bor k st g with
  |some (.nx,g1)=>jr rest g1
  |some (f,g1)=>some (f,g1)
  |none=>none
end
noncomputable def xArgs(rn:Rn)(bor:List Nat)(k:Nat)(l:List Ex)(g:G):Option (Nat×G):=none
noncomputable def G8(rn:Rn)(bor:List Nat)(k:Nat)(fns:List Fx)(e:Ex)(g:G):Option (Nat×G):=none
def yC(rn:Rn)(bor:List Nat)(k:Nat)(e:Ex)(g:G):Option (Nat×G):=none
noncomputable def Sy(rn:Rn)(bor:List Nat)(k:Nat)(st:Sm)(g:G):Option (Nat×G):=none
noncomputable def yD(rn:Rn)(bor:List Nat)(k:Nat)(l:List Sm)(g:G):Option (Nat×G):=none
def step(fns:List Fx)(rn:Rn):Rn:=⟨λbor k e g=>bw rn bor k fns e g,λbor k e g=>stepT rn bor k e g,λbor k l g=>jr rn bor k l g,λbor k e g=>G8 rn bor k fns e g,λbor k e g=>yC rn bor k e g,λbor k l g=>yD rn bor k l g⟩
noncomputable def rn0:Rn:=⟨λ_ _ _ _=>none,λ_ _ _ _=>none,λ_ _ _ _=>none,λ_ _ _ _=>none,λ_ _ _ _=>none,λ_ _ _ _=>none⟩
def run(fns:List Fx):Nat->Rn
 | 0=>rn0
 |n+1=>step fns (run fns n)
structure Ct where
 N:List Str
 sc:Scope
 df:Bool
 q:Str
structure Fi where
 name:Str
 qual:Str
 st:Stmt
 N:List Str
 ps:List Str
structure Pg where
 fn:List Fi
 ct:List (Str×D)
 bn:List Str
 cls:List Str:=[]
 lam:Bool:=false
 O4:List Addr:=[]
 kt:Str:=Str.empty
 ups:List (Str×List (Addr×Bool)):=[]
def Sz:Str:= "law.<locals>.<lambda>"
def SJ(K:Frag)(mg:Str->Option Value)(gg:Value):Prop:=
 ∃c q,gg=.ref c/\(∀b:Heap,K.In b->PySem.W.CodeHd b c q)/\(q,Sz)∈gk K/\(∀b:Heap,K.In b->b.BuiltinsAt mg q)/\mainGlobals≠q
structure CJ(P:Pg)(K:Frag)(mg:Str->Option Value):Prop where
 fn:∀(i:Nat) (fi:Fi),P.fn[i]?=some fi->∃f fd,mg fi.name=some (.ref f)/\WT K fi.name fi.qual fi.st f fd/\fW fi.N fi.ps (aZ fi.st)/\L2.Binds K fd fi.ps []/\(fi.name==(~~~3))=false
 ct:∀(x:Str) (d:D),(x,d)∈P.ct->(x==(~~~3))=false/\∃v u,mg x=some u/\RelV v u/\∀M H,Rep K M H d v
 bn:∀x∈P.bn,mg x=none
 cls:∀x∈P.cls,(x==(~~~3))=false/\∃C,mg x=some (.ref C)/\BW K C
 lam:P.lam=true->∀gg,PySem.W.codeIn K gg "law"=true->SJ K mg gg
 O4:∀(i:Nat) (C:Addr),P.O4[i]?=some C->∃x,P.cls[i]?=some x/\mg x=some (.ref C)/\BW K C/\W4 K C
 kt:P.lam=true->(P.kt==(~~~3))=false/\∃D,mg P.kt=some (.ref D)/\BW K D/\∀C∈P.O4,XM K C D=true
 ups:∀(x:Str) (l:List (Addr×Bool)),(x,l)∈P.ups->(x==(~~~3))=false/\∃cv,((mg x=some cv/\∃D,cv=.ref D)\/(x∈P.bn/\x≠ "__name__" /\bootBuiltins x=some cv/\∃n,cv=.type n))/\PySem.W.kitOne K (.type "NoneType") cv=some false/\∀C b,l.lookup C=some b->PySem.W.kitOne K (.ref C) cv=some b
structure bD(P:Pg)(k:Nat)(X:Cx)(c:Ct):Prop where
 N:X.N=c.N
 nd:c.N.Nodup
 Vu:∀x,c.sc.names.lookup x=some .local->X.env.scope.names.lookup x=some .local
 qm:∀x,c.sc.names.lookup x=some .globalImplicit->Gl X x
 fre:∀x,c.sc.names.lookup x=some .cell\/c.sc.names.lookup x=some .free->X.env.scope.names.lookup x=some .cell\/X.env.scope.names.lookup x=some .free
 cel:c.df=true->∀x,c.sc.names.lookup x=some .cell->X.env.scope.names.lookup x=some .cell
 fn:∀x,c.df=true\/c.sc.names.lookup x=some .local->X.fn x=true
 bk:c.df=true->X.env.blockKind=.function
 calm:X.calm=true
 xe:X.xe=λ_ _=>False
 md:CJ P X.K X.mg
 room:gj k X.A
 lam:c.q = "law" ->P.lam=true->X.env.qual ++ "<lambda>"=Sz/\SJ X.K X.mg X.env.code
noncomputable def jL(sc:Scope)(x:Str):Bool:=match sc.names.lookup x with |some .local=>true |some .cell=>true |some .free=>true |_=>false
noncomputable def fG(c:Ct)(x:Str):Bool:=match c.sc.names.lookup x with |some .local=>true |some .cell=>c.df |_=>false
noncomputable def bT(x:Str):Bool:=!(x==(~~~3))&&!(x==("__classdict__":Str))
section
theorem bD.vis(h:bD P k X c)(hv:jL c.sc x=true):mq X.env.scope x:=by
 unfold jL at hv;split at hv
 . rename_i e;exact .inl (h.Vu x e)
 . rename_i e;exact (h.fre x (.inl e)).elim (λq=>.inr (.inl q)) λq=>.inr (.inr q)
 . rename_i e;exact (h.fre x (.inr e)).elim (λq=>.inr (.inl q)) λq=>.inr (.inr q)
 . cases hv
theorem bD.nm(h:bD P k X c)(hi:c.N[i]?=some x)(hs:fG c x=true):oZ X x i:=by
 refine⟨h.N▸h.nd,by rw[h.N];exact hi,?_,.inl (h.fn x ?_)⟩
 .
  unfold fG at hs;split at hs
  . rename_i e;exact .inl (h.Vu x e)
  . rename_i e;exact .inr (h.cel hs x e)
  . cases hs
 .
  unfold fG at hs;split at hs
  . rename_i e;exact .inr e
  . exact .inl hs
  . cases hs
theorem bZ(h:bT x=true):(x==(~~~3))=false/\(x==("__classdict__":Str))=false:=by unfold bT at h;simp only[dE,Bool.not_eq_true']at h;exact h
theorem cW{α:Type}{f:Int->Int->Option α}{a b:D}{r:α}(h:kj f a b=some r):∃i j,a=.int i/\b=.int j/\f i j=some r:=by
 unfold kj at h;left
 .
  left
  . exact⟨_,_,rfl,rfl,h⟩
  . symm
 . symm
theorem L0{d1 d2:D}{r:R}(hK:z.K=X.K)(h:LR d1 d2=some r):mF X z (binaryOp .Add) d1 d2 r:=by
 unfold LR at h;left
 .
  left
  . symm;exact nM Qi
  . symm
 .
  left
  .
   left
   . rename_i hc;symm;exact Rg hc
   . symm
  . symm
 .
  left
  .
   left
   . rename_i hc;symm;exact KQ hK hc
   . symm
  . symm
 . symm
theorem L1{d1:D}{k:Int}{r:R}(hK:z.K=X.K)(h:LW d1 k=some r):mF X z (binaryOp .Mult) d1 (.int k) r:=by
 unfold LW at h;left
 .
  left
  . rename_i hc;symm;refine oR Qk ?_;unfold jI at hc;simp only[sK,dE,dL]at hc;exact hc
  . symm
 .
  left
  . rename_i hc;symm;exact Rh hc.1 hc.2.1 hc.2.2
  . symm
 . symm
theorem SM(hK:z.K=X.K)(h:nI op d1 d2=some r):mF X z (binaryOp op) d1 d2 r:=by
 cases op with
 |Add=>exact L0 hK h
 |Sub=>obtain⟨i,j,rfl,rfl,h'⟩:=cW h;cases h';exact nM Qj
 |Mult=>
  dsimp only[nI]at h;left
  . exact L1 hK h
  . symm
 |FloorDiv=>
  obtain⟨i,j,rfl,rfl,h'⟩:=cW h;split at h'
  . rename_i hc;cases h';exact oR J1 hc
  . cases h'
 |Mod=>
  obtain⟨i,j,rfl,rfl,h'⟩:=cW h;split at h'
  . rename_i hc;cases h';exact oR Ql hc
  . cases h'
 |Pow=>
  obtain⟨i,j,rfl,rfl,h'⟩:=cW h;split at h'
  . rename_i hc;cases h';exact oR sJ ⟨hc.1,by have:=hc.2.1;lia,hc.2.2⟩
  . cases h'
 |LShift=>
  obtain⟨i,j,rfl,rfl,h'⟩:=cW h;split at h'
  . rename_i hc;cases h';exact Sv hc.1 (by have:=hc.2.1;lia) hc.2.2
  . cases h'
 |_=>symm
theorem L5(h:CG op d1 d2=some d):mF X z (inplaceOp op) d1 d2 (.dat d):=by
 unfold CG at h;left
 . symm;exact nM J2
 . symm;exact nM J3
 .
  left
  . rename_i hc;symm;refine oR J4 ?_;unfold jI at hc;simp only[sK,dE,dL]at hc;exact hc
  . symm
 . symm
theorem pF(hK:z.K=X.K)(hr:gj k X.A)(h:fT op d1 d2=some b):mF X z (compareOp op) d1 d2 (.dat (.bl b)):=by
 have hu:=hr.un;cases op with
 |Eq=>
  dsimp only[fT]at h;left
  . rename_i hc;symm;simp only[kr,dE,dL]at hc;exact Xc hK hc.1.1 hc.1.2 (by have:=hc.2;lia)
  . symm
 |NotEq=>
  dsimp only[fT]at h;left
  . rename_i hc;symm;simp only[kr,dE,dL]at hc;exact Xe hK hc.1.1 hc.1.2 (by have:=hc.2;lia)
  . symm
 |Lt=>
  dsimp only[fT,X4]at h;left
  .
   left
   . symm;exact tE Wn
   . symm
  .
   left
   .
    left
    .
     rename_i h1;left
     . rename_i h2;symm;exact Rl hK ⋯ h1 h2
     . symm
    . symm
   . symm
  . symm
 |LtE=>obtain⟨i,j,rfl,rfl,h'⟩:=cW h;cases h';exact tE Wo
 |Gt=>obtain⟨i,j,rfl,rfl,h'⟩:=cW h;cases h';exact tE Wq
 |GtE=>obtain⟨i,j,rfl,rfl,h'⟩:=cW h;cases h';exact tE Wr
 |In=>
  dsimp only[fT]at h;left
  .
   rename_i hs;left
   . rename_i hc;symm;simp only[jJ,dE,dL]at hc;exact Xg hK hs hc.1.1 hc.1.2 (by have:=hc.2;lia)
   . symm
  . symm
 |NotIn=>
  dsimp only[fT]at h;left
  .
   rename_i hs;left
   . rename_i hc;symm;simp only[jJ,dE,dL]at hc;exact Fp hK hs hc.1.1 hc.1.2 (by have:=hc.2;lia)
   . symm
  . symm
 |_=>symm
theorem SN{d1 d2 d:D}(hK:z.K=X.K)(hr:X.A.units+1<cLine)(h:uO d1 d2=some d):Vf X z d1 d2 (.dat d):=by
 unfold uO at h;left
 . exact Rj hK h
 . exact Rk hK h
 . exact KR hK h
 .
  left
  . rename_i e;exact Sl hK hr e h
  . symm
 . symm
noncomputable def X7:Bl->Str×Value
 |.len=>("len",.builtin "len")
 |.list=>("list",.type "list")
 |.tuple=>("tuple",.type "tuple")
 |.max=>("max",.builtin "max")
 |.min=>("min",.builtin "min")
 |.str=>("str",.type "str")
 |.all=>("all",.builtin "all")
 |.any=>("any",.builtin "any")
 |.sorted=>("sorted",.builtin "sorted")
 |.sum=>("sum",.builtin "sum")
theorem SQ{b:Bl}{d:D}{r:R}(hK:z.K=X.K)(hc:X.calm=true)(hr:X.A.units+6<cLine)(h:G5 b d=some r):CallD X z (X7 b).2 [d] r:=by
 cases b <;> dsimp only[G5]at h
 case len=>
  left
  . rename_i e;symm;exact Ro hK e
  . symm
 case list=>
  left
  . rename_i e;symm;exact KS hK e
  . symm
 case tuple=>
  left
  . rename_i e;symm;exact Ft hK e
  . symm
 case min=>
  left
  .
   rename_i e1;left
   . rename_i e2;symm;exact Ln hc hK e1 e2
   .
    left
    . rename_i e3;symm;exact LQ hc ⋯ hK e1 e3
    . symm
  . symm
 case all=>
  left
  .
   left
   . rename_i e;symm;exact Rr hc e
   . symm
  . symm
 case sorted=>
  left
  .
   rename_i e1;left
   .
    rename_i e2;left
    . rename_i e3;symm;exact BP hK e1 e2 e3
    . symm
   .
    left
    .
     rename_i e2;left
     . rename_i e3;symm;exact yc hK e1 e2 e3
     . symm
    . symm
  . symm
 case sum=>
  left
  .
   rename_i e1;left
   . rename_i e2;symm;exact RZ hc hK e1 e2
   . symm
  . symm
 all_goals symm
theorem SX{b:Bl}{ds:List D}{r:R}(hK:z.K=X.K)(hc:X.calm=true)(hr:X.A.units+6<cLine)(h:jS b ds=some r):CallD X z (X7 b).2 ds r:=by
 unfold jS at h;left
 . exact SQ hK hc hr h
 .
  cases b with
  |max=>obtain⟨i,j,rfl,rfl,h'⟩:=cW h;cases h';exact Rp hc
  |min=>obtain⟨i,j,rfl,rfl,h'⟩:=cW h;cases h';exact Rq hc
  |_=>symm
 . symm
noncomputable def S0:Mt->Str
 |.count=> "count"
 |.index=> "index"
noncomputable def yE:Mt->D->String
 |.count,d=>Ot d
 |.index,d=>Xu d
theorem S3{m:Mt}{d0 d1 x:D}(hK:z.K=X.K)(hr:gj k X.A)(h:X5 m d0 d1=some x):Gq X z (yE m d0) d0 d1 (.dat x):=by
 have hu:=hr.un;unfold X5 at h;left
 .
  left
  .
   rename_i hs;left
   . rename_i hc;symm;simp only[jJ,dE,dL]at hc;exact Gr hK hs hc.1.1 hc.1.2 (by have:=hc.2;lia)
   . symm
  . symm
 . symm
theorem L7(hs:bx d=some l)(he:yE m d0=yE m d):PlainAttrs (vn d)/\PySem.Slot (vn d) (S0 m) (yE m d0)/\typeOf (.builtin (yE m d0))=pure (.type "method_descriptor"):=by
 rw[he];cases d with
 |tup _=>cases m;exact⟨F.plainAttrs_tuple,F.slot_tuple_count,F.type_tuple_count⟩;exact⟨F.plainAttrs_tuple,F.slot_tuple_index,F.type_tuple_index⟩
 |lst _=>cases m;exact⟨Cc,B8,F.type_list_count⟩;exact⟨Cc,F.slot_list_index,F.type_list_index⟩
 |fix _=>cases m;exact⟨Cc,B8,F.type_list_count⟩;exact⟨Cc,F.slot_list_index,F.type_list_index⟩
 |_=>cases hs
theorem L8(h1:pk r g1=some d)(h2:pk r g2=some d0):yE m d0=yE m d:=by
 cases r with
 |dat x=>cases h1;cases h2;rfl
 |new _=>cases h1
 |var i=>
  unfold pk at h1 h2;dsimp only at h1 h2;have key:∀{g:G}{d:D},(match g[i]? with |some (.own l)=>some (D.lst l) |some (.dat (.lst l))=>some (.lst l) |_=>none)=some d->∃l,d=.lst l:=λ{g d} h=>by
   left
   . symm;exact⟨_,rfl⟩
   . symm;exact⟨_,rfl⟩
   . symm
  obtain⟨l1,rfl⟩:=key h1;obtain⟨l2,rfl⟩:=key h2;cases m <;> rfl
noncomputable def v7:List String:=["int", "bool", "str", "tuple", "list", "dict"]
theorem G9{K:Frag}{M:List Addr}{H:Hp}{v:V}{d:D}(p:Pk K M H d v){n:String}(hn:n∈v7):PySem.W.kitOne K (Zx d) (.type n)=some (tR (vn d) n):=by
 cases d with
 |Dy C=>
  cases p with
  |of q=>
   cases q with
   |Dy k _ _=>refine (k.kit n hn).trans ?_;unfold v7 at hn;simp only[d6,kS,yB]at hn;rcases hn with rfl |rfl |rfl |rfl |rfl |rfl <;> first |rfl |decide
 |_=>unfold v7 at hn;simp only[d6,kS,yB]at hn;rcases hn with rfl |rfl |rfl |rfl |rfl |rfl <;> first |rfl |decide
end
noncomputable def v8(sc scope:Scope):Bool:=decide (scope.kind=.function)&&scope.names.all λy=>decide (y.2≠.cell)&&(decide (y.2≠.local)||decide (scope.names.lookup y.1=some .local)) &&
 (decide (y.2≠.free)||(decide (scope.names.lookup y.1=some .free)&&(decide (sc.names.lookup y.1=some .cell)||decide (sc.names.lookup y.1=some .free))))
noncomputable def iL(N N':List Str)(scope:Scope)(k:Nat):Bool:=decide (N'.length=N.length+(k+1))&&(match N'[N.length+k]? with |some x=>decide (scope.names.lookup x=none) |none=>true) &&
 (List.range N.length).all λi=>match N'[i]? with |some x=>decide (scope.names.lookup x=none)||(decide (N[i]?=some x)&&decide (scope.names.lookup x≠some .local)) |none=>true
inductive CK(c:Ct):List Expr->List Nat->Prop
 |nil:CK c [] []
 |cons {x:Str}{i:Nat}{pos:Pos}{es:List Expr}{is:List Nat}:c.N[i]?=some x->fG c x=true->CK c es is->CK c (.Name x pos::es) (i::is)
inductive Hf(P:Pg)(c:Ct):List Expr->List String->Prop
 |nil:Hf P c [] []
 |cons {T:Str}{n:String}{pos:Pos}{es:List Expr}{ns:List String}:T∈P.bn->c.sc.names.lookup T=some .globalImplicit->T=Str.ofString n->n∈v7->Hf P c es ns->Hf P c (.Name T pos::es) (n::ns)
inductive xC(c:Ct):Expr->Tg->Prop
 |nm:c.N[i]?=some x->fG c x=true->xC c (.Name x pos) (.nm i)
 |tp {es:List Expr}{is:List Nat}{k:Nat}{pos:Pos}:CK c es is->xC c (.Tuple es k pos) (.tp is)
noncomputable def DQ(c:Ct)(y:Str)(py pos:Pos)(scope:Scope):Bool:=(c.sc.names.lookup y==some .local)&&py.line==pos.line&&!(scope.names.any λ(n,k)=>n==y&&(k==.local||k==.cell))
def nmW(e:Expr):Option Str:=match e with |.Name x _=>some x |_=>none
noncomputable def tpN(n:Nat)(e:Expr):Bool:=match e with |.Tuple vs _ _=>decide (vs.length=n) |_=>false
noncomputable def X8(c:Ct)(a:Expr):Bool:=match nmW a with |some x=>decide (c.sc.names.lookup x=some .cell) |none=>false
def Ma(c:Ct)(es:List Expr)(e:Expr):Bool:=tpN es.length e&&(c.df&&es.any (X8 c))
inductive jm(R:Expr->Ex->Prop):List Expr->List Ex->Prop
 |nil:jm R [] []
 |cons {e:Expr}{es:List Expr}{x:Ex}{xs:List Ex}:R e x->jm R es xs->jm R (e::es) (x::xs)
inductive CN(R:Expr->Ex->Prop):Option Expr->Option Ex->Prop
 |none:CN R Option.none Option.none
 |some {e:Expr}{x:Ex}:R e x->CN R (Option.some e) (Option.some x)
inductive pG(R:Expr->Ex->Prop):List Expr->Option Ex->Prop
 |none:pG R [] Option.none
 |some {e:Expr}{x:Ex}:R e x->pG R [e] (Option.some x)
inductive kB(P:Pg)(R:Expr->Ex->Prop)(c:Ct):Expr->Ex->Prop
 |seq:R e x->kB P R c e x
 |dD:R a xa->("range":Str)∈P.bn->c.sc.names.lookup ("range":Str)=some .globalImplicit->kB P R c (.Call (.Name "range" p) [a] [] pos) (.dD xa)
 |cL:R a xa->R b xb->("range":Str)∈P.bn->c.sc.names.lookup ("range":Str)=some .globalImplicit->kB P R c (.Call (.Name "range" p) [a,b] [] pos) (.cL xa xb)
 |nG:R a xa->R b xb->R s xs->("range":Str)∈P.bn->c.sc.names.lookup ("range":Str)=some .globalImplicit->kB P R c (.Call (.Name "range" p) [a,b,s] [] pos) (.nG xa xb xs)
 |zip:R a xa->R b xb->("zip":Str)∈P.bn->c.sc.names.lookup ("zip":Str)=some .globalImplicit->kB P R c (.Call (.Name "zip" p) [a,b] [] pos) (.zip xa xb)
 |enum:R a xa->("enumerate":Str)∈P.bn->c.sc.names.lookup ("enumerate":Str)=some .globalImplicit->kB P R c (.Call (.Name "enumerate" p) [a] [] pos) (.enum xa)
noncomputable def Mf(e:Expr):Option Str:=match e with |.Name x _=>some x |_=>none
theorem tT{e:Expr}{x:Str}(h:Mf e=some x):∃p,e=.Name x p:=by cases e <;> first | (symm;exact⟨_,rfl⟩) |symm
noncomputable def Hg{α:Type}(l:List α):Option α:=match l with | [a]=>some a |_=>none
theorem nW{α:Type}{l:List α}{a:α}(h:Hg l=some a):l=[a]:=by
 cases l with
 |nil=>symm
 |cons b l=>cases l with
  |nil=>symm;rfl
  |cons _ _=>symm
noncomputable def Yb(s:Stmt):Option (List Expr×Expr):=match s with |.Assign ts e _=>some (ts,e) |_=>none
theorem Mg{s:Stmt}{r:List Expr×Expr}(h:Yb s=some r):∃p,s=.Assign r.1 r.2 p:=by cases s <;> first | (symm;exact⟨_,rfl⟩) |symm
noncomputable def Yc(e:Expr):Option Const:=match e with |.Constant c _ _=>some c |_=>none
theorem Mh(h:Yc e=some c):∃j p,e=.Constant c j p:=by cases e <;> first | (symm;exact⟨_,_,rfl⟩) |symm
noncomputable def Yd(c:Const):Option Unit:=match c with |.none=>some () |_=>none
theorem Mi(h:Yd c=some ()):c=.none:=by cases c <;> first |rfl |symm
noncomputable def Ye(s:Stmt):Option Expr:=match s with |.Expr e _=>some e |_=>none
theorem Mj{s:Stmt}{e:Expr}(h:Ye s=some e):∃p,s=.Expr e p:=by cases s <;> first | (symm;exact⟨_,rfl⟩) |symm
noncomputable def Yg(e:Expr):Option (Expr×List Expr×List Keyword):=match e with |.Call f as ks _=>some (f,as,ks) |_=>none
theorem Mk{e:Expr}{r:Expr×List Expr×List Keyword}(h:Yg e=some r):∃p,e=.Call r.1 r.2.1 r.2.2 p:=by cases e <;> first | (symm;exact⟨_,rfl⟩) |symm
noncomputable def Yh(s:Stmt):Option (List Stmt×List ExceptHandler×List Stmt×List Stmt):=match s with |.Try b h o f _=>some (b,h,o,f) |_=>none
theorem Ml{s:Stmt}{r:List Stmt×List ExceptHandler×List Stmt×List Stmt}(h:Yh s=some r):∃p,s=.Try r.1 r.2.1 r.2.2.1 r.2.2.2 p:=by cases s <;> first | (symm;exact⟨_,rfl⟩) |symm
noncomputable def Hh{α:Type}(l:List α):Option Unit:=match l with | []=>some () |_=>none
theorem nX{α:Type}{l:List α}(h:Hh l=some ()):l=[]:=by cases l with |nil=>rfl |cons _ _=>symm
noncomputable def Yi(h:ExceptHandler):Option (Expr×Str×List Stmt):=match h with |.ExceptHandler t n b _=>t.bind λt=>n.bind λn=>some (t,n,b)
theorem Mm{h:ExceptHandler}{r:Expr×Str×List Stmt}(e:Yi h=some r):∃p,h=.ExceptHandler (some r.1) (some r.2.1) r.2.2 p:=by
 obtain⟨t,n,b,p⟩:=h;cases t with
 |none=>cases e
 |some t=>cases n with
  |none=>cases e
  |some n=>cases e;exact⟨p,rfl⟩
def zR(s:Stmt):Option (Str×Expr):=(Yb s).bind λr=>(Hg r.1).bind λt=>(Mf t).bind λx=>some (x,r.2)
theorem v9{s:Stmt}{r:Str×Expr}(h:zR s=some r):∃p q,s=.Assign [.Name r.1 p] r.2 q:=by unfold zR at h;simp only[fI]at h;obtain⟨⟨ts,e⟩,h1,t,h2,x,h3,h4⟩:=h;cases h4;obtain⟨p,rfl⟩:=Mg h1;obtain⟨q,rfl⟩:=tT h3;have:=nW h2;dsimp only at this;subst this;exact⟨q,p,rfl⟩
def S4(l:List Stmt):Option Str:=(Hg l).bind λs3=>(Ye s3).bind λce=>(Yg ce).bind λf=>(Hh f.2.1).bind λ_=>(Hh f.2.2).bind λ_=>Mf f.1
theorem ZZ{l:List Stmt}{y:Str}(h:S4 l=some y):∃py cp ep,l=[.Expr (.Call (.Name y py) [] [] cp) ep]:=by replace h:=fI.1 h;obtain⟨s3,h1,h⟩:=h;cases nW h1;clear h1;replace h:=fI.1 h;obtain⟨ce,h1,h⟩:=h;obtain⟨p,e1⟩:=Mj h1;cases e1;clear h1;replace h:=fI.1 h;obtain⟨⟨f1,f2,f3⟩,h1,h⟩:=h;obtain⟨q,e1⟩:=Mk h1;cases e1;clear h1;replace h:=fI.1 h;obtain⟨_,h1,h⟩:=h;replace h:=fI.1 h;obtain⟨_,h2,h⟩:=h;obtain⟨r,e1⟩:=tT h;exact⟨r,q,p,by have a:=nX h1;have b:=nX h2;dsimp only at a b e1 ⊢;rw[a,b,e1]⟩
def S5(l:List ExceptHandler):Option (Str×Str×Str×Str):=(Hg l).bind λhh=>(Yi hh).bind λu=>(Mf u.1).bind λke=>(Hg u.2.2).bind λs4=>(zR s4).bind λb=>(Mf b.2).bind λen'=>some (ke,u.2.1,b.1,en')
theorem Z0{l:List ExceptHandler}{r:Str×Str×Str×Str}(h:S5 l=some r):∃kp erp enp ap hp,l=[.ExceptHandler (some (.Name r.1 kp)) (some r.2.1) [.Assign [.Name r.2.2.1 erp] (.Name r.2.2.2 enp) ap] hp]:=by replace h:=fI.1 h;obtain⟨hh,h1,h⟩:=h;cases nW h1;clear h1;replace h:=fI.1 h;obtain⟨⟨u1,u2,u3⟩,h1,h⟩:=h;obtain⟨p,e1⟩:=Mm h1;cases e1;clear h1;replace h:=fI.1 h;obtain⟨ke,h1,h⟩:=h;obtain⟨q,e1⟩:=tT h1;cases e1;clear h1;replace h:=fI.1 h;obtain⟨s4,h1,h⟩:=h;cases nW h1;clear h1;replace h:=fI.1 h;obtain⟨⟨b1,b2⟩,h1,h⟩:=h;obtain⟨m,n,e1⟩:=v9 h1;cases e1;clear h1;replace h:=fI.1 h;obtain⟨en,h1,h⟩:=h;obtain⟨o,e1⟩:=tT h1;cases e1;clear h1;symm;exact⟨q,m,o,n,p,rfl⟩
def nonS(s:Stmt):Option Str:=(zR s).bind λa=>(Yc a.2).bind λc=>(Yd c).bind λ_=>some a.1
theorem Z1(h:nonS s=some x):∃p j np ap,s=.Assign [.Name x p] (.Constant .none j np) ap:=by replace h:=fI.1 h;obtain⟨⟨a1,a2⟩,h1,h⟩:=h;obtain⟨p,q,e1⟩:=v9 h1;cases e1;clear h1;replace h:=fI.1 h;obtain⟨c,h1,h⟩:=h;obtain⟨j,m,e1⟩:=Mh h1;cases e1;clear h1;replace h:=fI.1 h;obtain⟨_,h1,h⟩:=h;cases Mi h1;clear h1;symm;exact⟨p,j,m,q,rfl⟩
def tryS(s:Stmt):Option (Str×Str×Str×Str×Str):=(Yh s).bind λt=>(Hh t.2.2.1).bind λ_=>(Hh t.2.2.2).bind λ_=>(S4 t.1).bind λy=>(S5 t.2.1).bind λu=>some (y,u)
theorem Z2{s:Stmt}{r:Str×Str×Str×Str×Str}(h:tryS s=some r):∃l hs p,S4 l=some r.1/\S5 hs=some r.2/\s=.Try l hs [] [] p:=by replace h:=fI.1 h;obtain⟨⟨t1,t2,t3,t4⟩,h1,h⟩:=h;obtain⟨p,e1⟩:=Ml h1;cases e1;clear h1;replace h:=fI.1 h;obtain⟨_,h1,h⟩:=h;cases nX h1;clear h1;replace h:=fI.1 h;obtain⟨_,h1,h⟩:=h;cases nX h1;clear h1;replace h:=fI.1 h;obtain⟨y,h1,h⟩:=h;replace h:=fI.1 h;obtain⟨u,h2,h⟩:=h;symm;exact⟨t1,t2,p,h1,h2,rfl⟩
inductive iM(P:Pg)(R:Ct->Expr->Ex->Prop)(c:Ct):Expr->Ex->Prop
 |int {i:Int}{j:Nat}{pos:Pos}:iM P R c (.Constant (.int i) j pos) (.val (.int i))
 |bool:iM P R c (.Constant (.bool i) j pos) (.val (.bl i))
 |none {j:Nat}{pos:Pos}:iM P R c (.Constant .none j pos) (.val .non)
 |str:iM P R c (.Constant (.str i) j pos) (.val (.str i))
 |var {x:Str}{i:Nat}{pos:Pos}:c.N[i]?=some x->jL c.sc x=true->bT x=true->iM P R c (.Name x pos) (.slot i)
 |glob {x:Str}{d:D}{pos:Pos}:(x,d)∈P.ct->c.sc.names.lookup x=some .globalImplicit->iM P R c (.Name x pos) (.val d)
 |bin {a b:Expr}{xa xb:Ex}{op:Operator}{pos:Pos}:R c a xa->R c b xb->iM P R c (.BinOp a op b pos) (.bin op xa xb)
 |cmp {a b:Expr}{xa xb:Ex}{op:CmpOp}{pos:Pos}:R c a xa->R c b xb->behindInMarks op b=false->iM P R c (.Compare a [op] [b] pos) (.cmp op xa xb)
 |chain {a b1 b2:Expr}{bs:List Expr}{xa x1 x2:Ex}{xs:List Ex}{Ld Le:CmpOp}{ops:List CmpOp}{pos:Pos}:R c a xa->jm (R c) (b1::b2::bs) (x1::x2::xs)->lastMarks (Ld::Le::ops) (b1::b2::bs)=false->iM P R c (.Compare a (Ld::Le::ops) (b1::b2::bs) pos) (.chain xa (Ld::Le::ops) (x1::x2::xs))
 |neg {a:Expr}{xa:Ex}{pos:Pos}:R c a xa->iM P R c (.UnaryOp .USub a pos) (.neg xa)
 |not {a:Expr}{xa:Ex}{pos:Pos}:R c a xa->iM P R c (.UnaryOp .Not a pos) (.not xa)
 |and {es:List Expr}{xs:List Ex}{pos:Pos}:jm (R c) es xs->iM P R c (.BoolOp .And es pos) (.and xs)
 |or {es:List Expr}{xs:List Ex}{pos:Pos}:jm (R c) es xs->iM P R c (.BoolOp .Or es pos) (.or xs)
 |ite {t a b:Expr}{xt xa xb:Ex}{pos:Pos}:R c t xt->R c a xa->R c b xb->iM P R c (.IfExp t a b pos) (.ite xt xa xb)
 |tup {es:List Expr}{xs:List Ex}{k:Nat}{pos:Pos}:jm (R c) es xs->iM P R c (.Tuple es k pos) (.tup xs)
 |lst {es:List Expr}{xs:List Ex}{pos:Pos}:jm (R c) es xs->iM P R c (.List es pos) (.lst xs)
 |ix {a b:Expr}{xa xb:Ex}{pos:Pos}:R c a xa->R c b xb->iM P R c (.Subscript a b pos) (.ix xa xb)
 |slice {a:Expr}{lo hi:Option Expr}{xa:Ex}{xl xh:Option Ex}{p2 pos:Pos}:R c a xa->CN (R c) lo xl->CN (R c) hi xh->iM P R c (.Subscript a (.Slice lo hi Option.none p2) pos) (.slice xa xl xh)
 |call {x:Str}{f:Nat}{fi:Fi}{e:Expr}{es:List Expr}{xs:List Ex}{p pos:Pos}:P.fn[f]?=some fi->fi.name=x->c.sc.names.lookup x=some .globalImplicit->jm (R c) (e::es) xs->iM P R c (.Call (.Name x p) (e::es) [] pos) (.call f xs)
 |blt {x:Str}{b:Bl}{e:Expr}{es:List Expr}{xs:List Ex}{p pos:Pos}:(X7 b).1=x->x∈P.bn->c.sc.names.lookup x=some .globalImplicit->jm (R c) (e::es) xs->iM P R c (.Call (.Name x p) (e::es) [] pos) (.blt b xs)
 |pB {a:Expr}{xa:Ex}{T:Str}{n:String}{p pT pos:Pos}:R c a xa->("isinstance":Str)∈P.bn->c.sc.names.lookup ("isinstance":Str)=some .globalImplicit->T∈P.bn->c.sc.names.lookup T=some .globalImplicit->T=Str.ofString n->n∈v7->iM P R c (.Call (.Name "isinstance" p) [a,.Name T pT] [] pos) (.pB xa n)
 |rev {a:Expr}{xa:Ex}{j:Nat}{p1 p2 p3 pos:Pos}:R c a xa->iM P R c (.Subscript a (.Slice none none (some (m1 j p1 p3)) p2) pos) (.rev xa)
 |comp {tg iter cO:Expr}{ifs:List Expr}{scope:Scope}{N':List Str}{k:Nat}{T:Tg}{it xe:Ex}{co:Option Ex}{pos:Pos}:v8 c.sc scope=true->iL c.N N' scope k=true->N'.Nodup->xC ⟨N',scope,false,Str.empty⟩ tg T->(∀i∈T.ix,c.N.length<=i/\i<c.N.length+k)->
   kB P (R c) c iter it->pG (R ⟨N',scope,false,Str.empty⟩) ifs co->R ⟨N',scope,false,Str.empty⟩ cO xe->iM P R c (.ListComp cO [⟨tg,iter,ifs,0⟩] scope pos) (.comp c.N.length k T it co xe)
 |iK {tg iter vx:Expr}{O5:List Expr}{scope:Scope}{N':List Str}{k kk:Nat}{T:Tg}{it xv:Ex}{ks:List Ex}{kp pos:Pos}:v8 c.sc scope=true->iL c.N N' scope k=true->N'.Nodup->xC ⟨N',scope,false,Str.empty⟩ tg T->(∀i∈T.ix,c.N.length<=i/\i<c.N.length+k)->
   kB P (R c) c iter it->jm (R ⟨N',scope,false,Str.empty⟩) O5 ks->R ⟨N',scope,false,Str.empty⟩ vx xv->iM P R c (.DictComp (.Tuple O5 kk kp) vx [⟨tg,iter,[],0⟩] scope pos) (.iK c.N.length k T it ks xv)
 |cK {t1 i1 tg iter cO:Expr}{f1 ifs:List Expr}{scope:Scope}{N':List Str}{k:Nat}{T1 T:Tg}{ki it xe:Ex}{c1 co:Option Ex}{pos:Pos}:v8 c.sc scope=true->iL c.N N' scope k=true->N'.Nodup->xC ⟨N',scope,false,Str.empty⟩ t1 T1->xC ⟨N',scope,false,Str.empty⟩ tg T->(∀i∈T1.ix,c.N.length<=i/\i<c.N.length+k)->(∀i∈T.ix,c.N.length<=i/\i<c.N.length+k)->
   kB P (R c) c i1 ki->pG (R ⟨N',scope,false,Str.empty⟩) f1 c1->kB P (R ⟨N',scope,false,Str.empty⟩) ⟨N',scope,false,Str.empty⟩ iter it->pG (R ⟨N',scope,false,Str.empty⟩) ifs co->R ⟨N',scope,false,Str.empty⟩ cO xe->iM P R c (.ListComp cO [⟨t1,i1,f1,0⟩,⟨tg,iter,ifs,0⟩] scope pos) (.cK c.N.length k T1 ki c1 T it co xe)
 |cT {a:Expr}{xa:Ex}{lp p rp pos:Pos}:R c a xa->("range":Str)∈P.bn->c.sc.names.lookup ("range":Str)=some .globalImplicit->("list":Str)∈P.bn->c.sc.names.lookup ("list":Str)=some .globalImplicit->iM P R c (.Call (.Name "list" lp) [.Call (.Name "range" p) [a] [] rp] [] pos) (.cT xa)
 |fY {a b:Expr}{xa xb:Ex}{lp p rp pos:Pos}:R c a xa->R c b xb->("range":Str)∈P.bn->c.sc.names.lookup ("range":Str)=some .globalImplicit->("list":Str)∈P.bn->c.sc.names.lookup ("list":Str)=some .globalImplicit->iM P R c (.Call (.Name "list" lp) [.Call (.Name "range" p) [a,b] [] rp] [] pos) (.fY xa xb)
 |gR {a:Expr}{xa:Ex}{j:Nat}{p kp kpos pos:Pos}:R c a xa->("sorted":Str)∈P.bn->c.sc.names.lookup ("sorted":Str)=some .globalImplicit->iM P R c (.Call (.Name "sorted" p) [a] [⟨Option.some "reverse",.Constant (.bool true) j kp,kpos⟩] pos) (.gR xa)
 |meth {o e:Expr}{xo xe:Ex}{m:Mt}{name:Str}{dY bQ:Pos}:R c o xo->R c e xe->S0 m=name->(dY.endLine==bQ.line)=true->iM P R c (.Call (.Attribute o name dY) [e] [] bQ) (.meth m xo xe)
 |append {x:Str}{i:Nat}{e:Expr}{xe:Ex}{pn dY bQ:Pos}:c.N[i]?=some x->jL c.sc x=true->bT x=true->R c e xe->(dY.endLine==bQ.line)=true->iM P R c (.Call (.Attribute (.Name x pn) "append" dY) [e] [] bQ) (.append i xe)
 |extend {x:Str}{i:Nat}{e:Expr}{xe:Ex}{pn dY bQ:Pos}:c.N[i]?=some x->jL c.sc x=true->bT x=true->R c e xe->(dY.endLine==bQ.line)=true->iM P R c (.Call (.Attribute (.Name x pn) "extend" dY) [e] [] bQ) (.extend i xe)
 |ig {x:Str}{i:Nat}{e:Expr}{xe:Ex}{pn dY bQ:Pos}:c.N[i]?=some x->jL c.sc x=true->bT x=true->R c e xe->(dY.endLine==bQ.line)=true->iM P R c (.Call (.Attribute (.Name x pn) "pop" dY) [e] [] bQ) (.ig i xe)
abbrev p0:Pos:=⟨0,0,0,0⟩
inductive Mp(P:Pg)(R:Expr->Ex->Prop)(RS:Stmt->Sm->Prop)(c:Ct):List Stmt->Sm->Prop
 |rows {y x mn a b tn:Str}{im it iy ia ib:Nat}{scope:Scope}{N':List Str}{k j:Nat}{lp px rp mp Vs Si ap py pa pb Dr y1 y2 a1 a2 b1 b2 Vm Vo Oz OJ OD Jw Vn Vp G0 rpos yr tp:Pos}{tk:Nat} :
   (c.N[im]?=some mn/\jL c.sc mn=true/\bT mn=true)->(c.N[it]?=some tn/\jL c.sc tn=true/\bT tn=true)->(c.N[iy]?=some y/\DQ c y py Si scope=true/\bT y=true)->
   ((c.N[ia]?=some a/\jL c.sc a=true/\bT a=true)/\fG c a=true)->((c.N[ib]?=some b/\jL c.sc b=true/\bT b=true)/\fG c b=true)->(ia≠iy/\ib≠iy/\ia≠ib)->
   (j<k/\v8 c.sc scope=true/\iL c.N N' scope k=true/\N'.Nodup/\N'[c.N.length+j]?=some x/\fG ⟨N',scope,false,Str.empty⟩ x=true)->(("range":Str)∈P.bn/\c.sc.names.lookup ("range":Str)=some .globalImplicit)->(Oz.endLine==OD.line)=true->(OJ.endLine==Jw.line)=true->
   Mp P R RS c [.Assign [.Name y py] (.ListComp (.List [] lp) [⟨.Name x px,.Call (.Name "range" rp) [.Name mn mp] [] Vs,[],0⟩] scope Si) ap,.For (.Tuple [.Name a pa,.Name b pb] tk Dr) (.Name tn tp) [.Expr (.Call (.Attribute (.Subscript (.Name y y1) (.Name a a1) Vm) "append" Oz) [.Name b b1] [] OD) Vn,.Expr (.Call (.Attribute (.Subscript (.Name y y2) (.Name b b2) Vo) "append" OJ) [.Name a a2] [] Jw) Vp] [] G0,.Return (some (.Name y yr)) rpos] (.rows im it iy ia ib)
inductive pH(RG:List Stmt->Sm->Prop)(RS:Stmt->Sm->Prop):List Stmt->List Sm->Prop
 |nil:pH RG RS [] []
 |grp {ss rest:List Stmt}{x:Sm}{xs:List Sm}:RG ss x->pH RG RS rest xs->pH RG RS (ss++rest) (x::xs)
 |cons {s:Stmt}{ss:List Stmt}{x:Sm}{xs:List Sm}:RS s x->pH RG RS ss xs->pH RG RS (s::ss) (x::xs)
noncomputable def kC(k:Scope->Pos->Bool)(e:Expr):Bool:=match e with |.ListComp _ _ s p=>k s p |.DictComp ..=>true |_=>false
inductive jM(P:Pg)(R:Expr->Ex->Prop)(RS:Stmt->Sm->Prop)(c:Ct):Stmt->Sm->Prop
 |ret {e:Expr}{x:Ex}{pos:Pos}:R e x->jM P R RS c (.Return (some e) pos) (.ret x)
 |expr {e:Expr}{x:Ex}{pos:Pos}:R e x->kC (λ_ _=>true) e=false->jM P R RS c (.Expr e pos) (.expr x)
 |set {y:Str}{i:Nat}{e:Expr}{x:Ex}{py pos:Pos}:c.N[i]?=some y->fG c y=true->R e x->kC (λs p=>DQ c y py p s) e=false->jM P R RS c (.Assign [.Name y py] e pos) (.set i x)
 |setC {y:Str}{i:Nat}{a:Expr}{b:List Comprehension}{s:Scope}{p:Pos}{n kk:Nat}{T:Tg}{it:Ex}{co:Option Ex}{x:Ex}{py pos:Pos}:c.N[i]?=some y->DQ c y py p s=true->R (.ListComp a b s p) (.comp n kk T it co x)->jM P R RS c (.Assign [.Name y py] (.ListComp a b s p) pos) (.setC i (.comp n kk T it co x))
 |O6 {y:Str}{i:Nat}{a:Expr}{b:List Comprehension}{s:Scope}{p:Pos}{n kk:Nat}{T1 T:Tg}{ki it:Ex}{c1 co:Option Ex}{x:Ex}{py pos:Pos}:c.N[i]?=some y->DQ c y py p s=true->R (.ListComp a b s p) (.cK n kk T1 ki c1 T it co x)->jM P R RS c (.Assign [.Name y py] (.ListComp a b s p) pos) (.setC i (.cK n kk T1 ki c1 T it co x))
 |tgt {es:List Expr}{k:Nat}{pt pos:Pos}{T:Tg}{e:Expr}{x:Ex}:xC c (.Tuple es k pt) T->R e x->(∀vs k p,e≠.Tuple vs k p)\/Ma c es e=true->kC (λ_ _=>true) e=false->jM P R RS c (.Assign [.Tuple es k pt] e pos) (.tgt T x)
 |item {y:Str}{i:Nat}{ix e:Expr}{xj x:Ex}{pn bY pos:Pos}:c.N[i]?=some y->jL c.sc y=true->bT y=true->R ix xj->R e x->kC (λ_ _=>true) e=false->jM P R RS c (.Assign [.Subscript (.Name y pn) ix bY] e pos) (.item i xj x)
 |aug {y:Str}{i:Nat}{op:Operator}{e:Expr}{x:Ex}{py pos:Pos}:c.N[i]?=some y->fG c y=true->R e x->jM P R RS c (.AugAssign (.Name y py) op e pos) (.aug i op x)
 |items2 {x y:Str}{i j:Nat}{ix iy e:Expr}{xi yi xe:Ex}{pn Gu bY iH pt pos:Pos}{kt:Nat}:c.N[i]?=some x->jL c.sc x=true->bT x=true->c.N[j]?=some y->jL c.sc y=true->bT y=true->R ix xi->R iy yi->R e xe->kC (λ_ _=>true) e=false->jM P R RS c (.Assign [.Tuple [.Subscript (.Name x pn) ix bY,.Subscript (.Name y Gu) iy iH] kt pt] e pos) (.items2 i xi j yi xe)
 |ite {t:Expr}{a b:List Stmt}{xt:Ex}{xa xb:List Sm}{pos:Pos}:R t xt->pH (Mp P R RS c) RS a xa->pH (Mp P R RS c) RS b xb->jM P R RS c (.If t a b pos) (.ite xt xa xb)
 |loop {tg iter:Expr}{T:Tg}{it:Ex}{b:List Stmt}{xb:List Sm}{pos:Pos}:xC c tg T->kB P R c iter it->pH (Mp P R RS c) RS b xb->jM P R RS c (.For tg iter b [] pos) (.loop T it xb)
 |while {t:Expr}{xt:Ex}{b:List Stmt}{xb:List Sm}{pos:Pos}:R t xt->pH (Mp P R RS c) RS b xb->jM P R RS c (.While t b [] pos) (.while xt xb)
 |stuck {s:Stmt}:jM P R RS c s .stuck
theorem aq{a b:Bool}(h:(a&&b)=true):a=true/\b=true:=by cases a <;> cases b <;> first |exact⟨rfl,rfl⟩ |symm
theorem dec{p:Prop} [Decidable p] (h:decide p=true):p:=l9 h
theorem tU{b:Bool}(h:(!b)=true):b=false:=by cases b <;> first |rfl |symm
noncomputable def glB(c:Ct)(x:Str):Bool:=decide (c.sc.names.lookup x=some .globalImplicit)
def yF(P:Pg)(c:Ct)(x:Str):Bool:=P.bn.contains x&&glB c x
theorem bf{P:Pg}{c:Ct}{x:Str}(h:yF P c x=true):x∈P.bn/\c.sc.names.lookup x=some .globalImplicit:=⟨CC.mp (aq h).1,dec (aq h).2⟩
noncomputable def nm(c:Ct)(i:Nat):Str:=c.N.getD i Str.empty
def lJ(c:Ct)(i:Nat):Bool:=decide (c.N[i]?=some (nm c i))&&(jL c.sc (nm c i)&&bT (nm c i))
def stB(c:Ct)(i:Nat):Bool:=decide (c.N[i]?=some (nm c i))&&fG c (nm c i)
theorem dU{c:Ct}{i:Nat}(h:lJ c i=true):c.N[i]?=some (nm c i)/\jL c.sc (nm c i)=true/\bT (nm c i)=true:=⟨dec (aq h).1,(aq (aq h).2).1,(aq (aq h).2).2⟩
def bang(x:Str):Str:=⟨x.cps.push 33⟩
def Yj(n:Nat):Str:=⟨(List.replicate n 33).toArray⟩
noncomputable def iN(scope:Scope):List Str:=scope.names.filterMap λy=>if y.2==.local then some y.1 else none
def pI(N:List Str)(scope:Scope):List Str:=(N.map λy=>if scope.names.lookup y==some .local then bang y else y)++iN scope++[Yj (N.length+1)]
noncomputable def pJ:List Str->Bool
 | []=>true
 |x::l=>!l.contains x&&pJ l
theorem gS:∀{l:List Str},pJ l=true->l.Nodup
 | [],_=>yY
 |x::l,h=>by
  have h:(!l.contains x&&pJ l)=true:=h;refine hV.mpr ⟨λhm=>?_,gS (aq h).2⟩
  have:=(aq h).1;rw[CC.mpr hm]at this;cases this
noncomputable def kids(e:Expr):List Expr:=match e with
 |.BoolOp _ vs _=>vs
 |.BinOp a _ b _=>[a,b]
 |.UnaryOp _ a _=>[a]
 |.Lambda _ b _ _=>[b]
 |.IfExp t a b _=>[t,a,b]
 |.ListComp e gs _ _=>e::gs.flatMap λg=>g.target::g.iter::g.ifs
 |.DictComp e v gs _ _=>e::v::gs.flatMap λg=>g.target::g.iter::g.ifs
 |.Compare a _ bs _=>a::bs
 |.Call f as ks _=>f::(as++ks.map (·.value))
 |.FormattedValue v _ _ _=>[v]
 |.JoinedStr vs _=>vs
 |.Attribute v _ _=>[v]
 |.Subscript a b _=>[a,b]
 |.List es _=>es
 |.Tuple es _ _=>es
 |.Slice a b s p=>[a.getD (.Name Str.empty p),b.getD (.Name Str.empty p),s.getD (.Name Str.empty p)]
 |_=>[]
def kid(e:Expr)(i:Nat):Expr:=(kids e).getD i e
noncomputable def wc(e:Expr):Nat:=match e with |.Constant _ k _=>k |.Tuple _ k _=>k |_=>0
noncomputable def lK(e:Expr):Scope:=match e with |.Lambda _ _ s _=>s |.ListComp _ _ s _=>s |.DictComp _ _ _ s _=>s |_=>aZ (.Pass e.pos)
noncomputable def kwT(e:Expr):Pos:=match e with |.Call _ _ ks _=>(match ks with |k::_=>k.pos |_=>e.pos) |_=>e.pos
def jT(c:Ct)(t:Expr):Ct:=⟨pI c.N (lK t),lK t,false,Str.empty⟩
noncomputable def Mq(P:Pg)(i:Nat):Str:=match P.fn[i]? with |some fi=>fi.name |none=>Str.empty
theorem Mr{P:Pg}{i:Nat}(h:P.fn[i]?.isSome=true):∃fi,P.fn[i]?=some fi/\fi.name=Mq P i:=by
 unfold Mq;cases e:P.fn[i]? with
 |none=>rw[e]at h;symm
 |some g=>exact⟨g,rfl,rfl⟩
section
variable{R:Expr->Ex->Prop}{s:Ex->Expr->Expr}{f:Ex->Expr->Bool}(hf:∀{x t},f x t=true->R (s x t) x)
include hf
noncomputable def pK(s:Ex->Expr->Expr)(t:Expr):Nat->List Ex->List Expr
 |_,[]=>[]
 |i,x::xs=>s x (kid t i)::pK s t (i+1) xs
noncomputable def Jy(f:Ex->Expr->Bool)(t:Expr):Nat->List Ex->Bool
 |_,[]=>true
 |i,x::xs=>f x (kid t i)&&Jy f t (i+1) xs
theorem iO{i:Nat}{xs:List Ex}(h:Jy f t i xs=true):jm R (pK s t i xs) xs:=by
 induction xs generalizing i with
 |nil=>exact .nil
 |cons x xs ih=>exact .cons (hf (aq h).1) (ih (aq h).2)
noncomputable def S6(s:Ex->Expr->Expr)(t:Expr)(x:Option Ex):Option Expr:=match x with |some x=>some (s x t) |none=>none
noncomputable def S7(f:Ex->Expr->Bool)(t:Expr)(x:Option Ex):Bool:=match x with |some x=>f x t |none=>true
theorem Hi{x:Option Ex}(h:S7 f t x=true):CN R (S6 s t x) x:=by
 cases x with
 |none=>exact .none
 |some x=>exact .some (hf h)
noncomputable def Ms(s:Ex->Expr->Expr)(t:Expr)(x:Option Ex):List Expr:=match x with |some x=>[s x t] |none=>[]
theorem yG{x:Option Ex}(h:S7 f t x=true):pG R (Ms s t x) x:=by
 cases x with
 |none=>exact .none
 |some x=>exact .some (hf h)
end
noncomputable def CP(s:Ex->Expr->Expr)(x:Ex)(t:Expr):Expr:=match x with
 |.dD a=>.Call (.Name "range" (kid t 0).pos) [s a (kid t 1)] [] t.pos
 |.cL a b=>.Call (.Name "range" (kid t 0).pos) [s a (kid t 1),s b (kid t 2)] [] t.pos
 |.nG a b d=>.Call (.Name "range" (kid t 0).pos) [s a (kid t 1),s b (kid t 2),s d (kid t 3)] [] t.pos
 |.zip a b=>.Call (.Name "zip" (kid t 0).pos) [s a (kid t 1),s b (kid t 2)] [] t.pos
 |.enum a=>.Call (.Name "enumerate" (kid t 0).pos) [s a (kid t 1)] [] t.pos
 |x=>s x t
def Vv(P:Pg)(c:Ct)(f:Ex->Expr->Bool)(x:Ex)(t:Expr):Bool:=match x with
 |.dD a=>yF P c "range" && f a (kid t 1)
 |.cL a b=>yF P c "range" && (f a (kid t 1)&&f b (kid t 2))
 |.nG a b d=>yF P c "range" && (f a (kid t 1)&&(f b (kid t 2)&&f d (kid t 3)))
 |.zip a b=>yF P c "zip" && (f a (kid t 1)&&f b (kid t 2))
 |.enum a=>yF P c "enumerate" && f a (kid t 1)
 |x=>f x t
theorem pL{P:Pg}{R:Expr->Ex->Prop}{s:Ex->Expr->Expr}{f:Ex->Expr->Bool}(hf:∀{x t},f x t=true->R (s x t) x){c:Ct}{x:Ex}{t:Expr}(h:Vv P c f x t=true):kB P R c (CP s x t) x:=by
 cases x
 case dD a=>exact .dD (hf (aq h).2) (bf (aq h).1).1 (bf (aq h).1).2
 case cL a b=>exact .cL (hf (aq (aq h).2).1) (hf (aq (aq h).2).2) (bf (aq h).1).1 (bf (aq h).1).2
 case nG a b d=>exact .nG (hf (aq (aq h).2).1) (hf (aq (aq (aq h).2).2).1) (hf (aq (aq (aq h).2).2).2) (bf (aq h).1).1 (bf (aq h).1).2
 case zip a b=>exact .zip (hf (aq (aq h).2).1) (hf (aq (aq h).2).2) (bf (aq h).1).1 (bf (aq h).1).2
 case enum a=>exact .enum (hf (aq h).2) (bf (aq h).1).1 (bf (aq h).1).2
 all_goals exact .seq (hf h)
noncomputable def Mu(c:Ct)(t:Expr):Nat->List Nat->List Expr
 |_,[]=>[]
 |j,i::is=>.Name (nm c i) (kid t j).pos::Mu c t (j+1) is
def okN(c:Ct):List Nat->Bool
 | []=>true
 |i::is=>stB c i&&okN c is
theorem S8{c:Ct}{t:Expr}{j:Nat}{is:List Nat}(h:okN c is=true):CK c (Mu c t j is) is:=by
 induction is generalizing j with
 |nil=>exact .nil
 |cons i is ih=>exact .cons (dec (aq (aq h).1).1) (aq (aq h).1).2 (ih (aq h).2)
def yH(c:Ct)(T:Tg)(t:Expr):Expr:=match T with
 |.nm i=>.Name (nm c i) t.pos
 |.tp is=>.Tuple (Mu c t 0 is) (wc t) t.pos
theorem lM{c:Ct}{T:Tg}{t:Expr}(h:okN c T.ix=true):xC c (yH c T t) T:=by
 cases T with
 |nm i=>exact .nm (dec (aq (aq h).1).1) (aq (aq h).1).2
 |tp is=>exact .tp (S8 h)
noncomputable def S9(a b:D):Bool:=match a with |.int i=>(match b with |.int j=>decide (i=j) |_=>false) |_=>false
theorem Mv(h:S9 a b=true):a=b:=by
 cases a with
 |int i=>cases b with
  |int j=>exact congrArg D.int (dec (show decide (i=j)=true from h))
  |_=>exact nt h
 |_=>exact nt h
def Z3(y:Str)(d:D):List (Str×D)->Bool
 | []=>false
 |p::l=>(decide (p.1=y)&&S9 p.2 d)||Z3 y d l
theorem Tc{y:Str}{d:D}{l:List (Str×D)}(h:Z3 y d l=true):(y,d)∈l:=by
 induction l with
 |nil=>symm
 |cons p l ih=>
  obtain⟨x,d'⟩:=p;have hh:((decide (x=y)&&S9 d' d)||Z3 y d l)=true:=h
  rcases sK _ _▸hh with h |h
  . obtain⟨h1,h2⟩:=aq h;obtain rfl:=dec h1;rw[Mv h2];exact c8
  . exact bP _ (ih h)
noncomputable def cstD(d:D):Const:=match d with |.int i=>.int i |.bl b=>.bool b |.str y=>.str y |_=>.none
noncomputable def cstK(d:D):Bool:=match d with |.int _=>true |.bl _=>true |.str _=>true |.non=>true |_=>false
def Hj(d:D)(t:Expr):Expr:=match Mf t with |some y=>.Name y t.pos |none=>.Constant (cstD d) (wc t) t.pos
def okV(P:Pg)(c:Ct)(d:D)(t:Expr):Bool:=match Mf t with |some y=>glB c y&&Z3 y d P.ct |none=>cstK d
theorem Td{P:Pg}{R:Ct->Expr->Ex->Prop}{c:Ct}{d:D}{t:Expr}(h:okV P c d t=true):iM P R c (Hj d t) (.val d):=by
 unfold okV at h;unfold Hj;cases e:Mf t with
 |some y=>rw[e]at h;exact .glob (Tc (aq h).2) (dec (aq h).1)
 |none=>
  rw[e]at h;cases d with
  |int i=>exact .int
  |bl i=>exact .bool
  |str i=>exact .str
  |non=>exact .none
  |_=>exact nt h
def blK(c:Ct)(t:Expr)(k:Nat):Bool:=v8 c.sc (lK t)&&(iL c.N (pI c.N (lK t)) (lK t) k&&pJ (pI c.N (lK t)))
def Yk(c:Ct)(k:Nat)(T:Tg):Bool:=T.ix.all λi=>decide (c.N.length<=i/\i<c.N.length+k)
theorem tV{c:Ct}{k:Nat}{T:Tg}(h:Yk c k T=true):∀i∈T.ix,c.N.length<=i/\i<c.N.length+k:=λi hi=>dec (eM.mp h i hi)
def o1(x:Option Ex):Nat:=match x with |some _=>1 |none=>0
def Te(P:Pg)(s:Ct->Ex->Expr->Expr)(c:Ct)(x:Ex)(t:Expr):Expr:=match x with
 |.val d=>Hj d t
 |.slot i=>.Name (nm c i) t.pos
 |.bin op a b=>.BinOp (s c a (kid t 0)) op (s c b (kid t 1)) t.pos
 |.cmp op a b=>.Compare (s c a (kid t 0)) [op] [s c b (kid t 1)] t.pos
 |.chain a ops xs=>.Compare (s c a (kid t 0)) ops (pK (s c) t 1 xs) t.pos
 |.neg a=>.UnaryOp .USub (s c a (kid t 0)) t.pos
 |.not a=>.UnaryOp .Not (s c a (kid t 0)) t.pos
 |.and xs=>.BoolOp .And (pK (s c) t 0 xs) t.pos
 |.or xs=>.BoolOp .Or (pK (s c) t 0 xs) t.pos
 |.ite a b d=>.IfExp (s c a (kid t 0)) (s c b (kid t 1)) (s c d (kid t 2)) t.pos
 |.tup xs=>.Tuple (pK (s c) t 0 xs) (wc t) t.pos
 |.lst xs=>.List (pK (s c) t 0 xs) t.pos
 |.ix a b=>.Subscript (s c a (kid t 0)) (s c b (kid t 1)) t.pos
 |.slice a lo hi=>.Subscript (s c a (kid t 0)) (.Slice (S6 (s c) (kid (kid t 1) 0) lo) (S6 (s c) (kid (kid t 1) 1) hi) none (kid t 1).pos) t.pos
 |.call i xs=>.Call (.Name (Mq P i) (kid t 0).pos) (pK (s c) t 1 xs) [] t.pos
 |.blt b xs=>.Call (.Name (X7 b).1 (kid t 0).pos) (pK (s c) t 1 xs) [] t.pos
 |.pB a n=>.Call (.Name "isinstance" (kid t 0).pos) [s c a (kid t 1),.Name (Str.ofString n) (kid t 2).pos] [] t.pos
 |.comp _ _ T it co xe=>.ListComp (s (jT c t) xe (kid t 0)) [⟨yH (jT c t) T (kid t 1),CP (s c) it (kid t 2),Ms (s (jT c t)) (kid t 3) co,0⟩] (lK t) t.pos
 |.iK _ _ T it ks xv=>.DictComp (.Tuple (pK (s (jT c t)) (kid t 0) 0 ks) (wc (kid t 0)) (kid t 0).pos) (s (jT c t) xv (kid t 1)) [⟨yH (jT c t) T (kid t 2),CP (s c) it (kid t 3),[],0⟩] (lK t) t.pos
 |.cK _ _ T1 ki c1 T it co xe=>.ListComp (s (jT c t) xe (kid t 0)) [⟨yH (jT c t) T1 (kid t 1),CP (s c) ki (kid t 2),Ms (s (jT c t)) (kid t 3) c1,0⟩,⟨yH (jT c t) T (kid t (3+o1 c1)),CP (s (jT c t)) it (kid t (4+o1 c1)),Ms (s (jT c t)) (kid t (5+o1 c1)) co,0⟩] (lK t) t.pos
 |.rev a=>.Subscript (s c a (kid t 0)) (.Slice none none (some (m1 (wc (kid (kid (kid t 1) 2) 0)) (kid (kid (kid t 1) 2) 0).pos (kid (kid t 1) 2).pos)) (kid t 1).pos) t.pos
 |.cT a=>.Call (.Name "list" (kid t 0).pos) [.Call (.Name "range" (kid (kid t 1) 0).pos) [s c a (kid (kid t 1) 1)] [] (kid t 1).pos] [] t.pos
 |.fY a b=>.Call (.Name "list" (kid t 0).pos) [.Call (.Name "range" (kid (kid t 1) 0).pos) [s c a (kid (kid t 1) 1),s c b (kid (kid t 1) 2)] [] (kid t 1).pos] [] t.pos
 |.gR a=>.Call (.Name "sorted" (kid t 0).pos) [s c a (kid t 1)] [⟨some "reverse",.Constant (.bool true) (wc (kid t 2)) (kid t 2).pos,kwT t⟩] t.pos
 |.meth m o x=>.Call (.Attribute (s c o (kid (kid t 0) 0)) (S0 m) (kid t 0).pos) [s c x (kid t 1)] [] t.pos
 |.append i x=>.Call (.Attribute (.Name (nm c i) (kid (kid t 0) 0).pos) "append" (kid t 0).pos) [s c x (kid t 1)] [] t.pos
 |.extend i x=>.Call (.Attribute (.Name (nm c i) (kid (kid t 0) 0).pos) "extend" (kid t 0).pos) [s c x (kid t 1)] [] t.pos
 |.ig i x=>.Call (.Attribute (.Name (nm c i) (kid (kid t 0) 0).pos) "pop" (kid t 0).pos) [s c x (kid t 1)] [] t.pos
 |_=>t
noncomputable def Vw(t:Expr):Bool:=(kid t 0).pos.endLine==t.pos.line
def ok1(P:Pg)(s:Ct->Ex->Expr->Expr)(f:Ct->Ex->Expr->Bool)(c:Ct)(x:Ex)(t:Expr):Bool:=match x with
 |.val d=>okV P c d t
 |.slot i=>lJ c i
 |.bin _ a b=>f c a (kid t 0)&&f c b (kid t 1)
 |.cmp op a b=>f c a (kid t 0)&&(f c b (kid t 1)&&!behindInMarks op (s c b (kid t 1)))
 |.chain a ops xs=>f c a (kid t 0)&&(Jy (f c) t 1 xs&&(!lastMarks ops (pK (s c) t 1 xs)&&(decide (2<=ops.length)&&decide (2<=xs.length))))
 |.neg a=>f c a (kid t 0)
 |.not a=>f c a (kid t 0)
 |.and xs=>Jy (f c) t 0 xs
 |.or xs=>Jy (f c) t 0 xs
 |.ite a b d=>f c a (kid t 0)&&(f c b (kid t 1)&&f c d (kid t 2))
 |.tup xs=>Jy (f c) t 0 xs
 |.lst xs=>Jy (f c) t 0 xs
 |.ix a b=>f c a (kid t 0)&&f c b (kid t 1)
 |.slice a lo hi=>f c a (kid t 0)&&(S7 (f c) (kid (kid t 1) 0) lo&&S7 (f c) (kid (kid t 1) 1) hi)
 |.call i xs=>P.fn[i]?.isSome&&(glB c (Mq P i)&&(Jy (f c) t 1 xs&&!xs.isEmpty))
 |.blt b xs=>yF P c (X7 b).1&&(Jy (f c) t 1 xs&&!xs.isEmpty)
 |.pB a n=>yF P c "isinstance" && (f c a (kid t 1)&&(v7.contains n&&yF P c (Str.ofString n)))
 |.iK n k T it ks xv=>decide (n=c.N.length)&&(blK c t k&&(okN (jT c t) T.ix&&(Yk c k T&&(Vv P c (f c) it (kid t 3)&&(Jy (f (jT c t)) (kid t 0) 0 ks&&f (jT c t) xv (kid t 1))))))
 |.comp n k T it co xe=>decide (n=c.N.length)&&(blK c t k&&(okN (jT c t) T.ix&&(Yk c k T&&(Vv P c (f c) it (kid t 2)&&(S7 (f (jT c t)) (kid t 3) co&&f (jT c t) xe (kid t 0))))))
 |.cK n k T1 ki c1 T it co xe=>decide (n=c.N.length)&&(blK c t k&&((okN (jT c t) T1.ix&&okN (jT c t) T.ix)&&((Yk c k T1&&Yk c k T)&&((Vv P c (f c) ki (kid t 2)&&S7 (f (jT c t)) (kid t 3) c1)&&((Vv P (jT c t) (f (jT c t)) it (kid t (4+o1 c1))&&S7 (f (jT c t)) (kid t (5+o1 c1)) co)&&f (jT c t) xe (kid t 0))))))
 |.rev a=>f c a (kid t 0)
 |.cT a=>(yF P c "range" && yF P c "list")&&f c a (kid (kid t 1) 1)
 |.fY a b=>(yF P c "range" && yF P c "list")&&(f c a (kid (kid t 1) 1)&&f c b (kid (kid t 1) 2))
 |.gR a=>yF P c "sorted" && f c a (kid t 1)
 |.meth _ o x=>Vw t&&(f c o (kid (kid t 0) 0)&&f c x (kid t 1))
 |.append i x=>Vw t&&(lJ c i&&f c x (kid t 1))
 |.extend i x=>Vw t&&(lJ c i&&f c x (kid t 1))
 |.ig i x=>Vw t&&(lJ c i&&f c x (kid t 1))
 |_=>false
def kD(P:Pg):Nat->Ct->Ex->Expr->Expr
 | 0=>λ_ _ t=>t
 |n+1=>Te P (kD P n)
def tW(P:Pg):Nat->Ct->Ex->Expr->Bool
 | 0=>λ_ _ _=>false
 |n+1=>ok1 P (kD P n) (tW P n)
def Cm(P:Pg)(c:Ct)(e:Expr)(x:Ex):Prop:=∃n t,e=kD P n c x t/\tW P n c x t=true
theorem Cm.mk{P:Pg}{n:Nat}{c:Ct}{x:Ex}{t:Expr}(h:tW P n c x t=true):Cm P c (kD P n c x t) x:=⟨n,t,rfl,h⟩
theorem Cm.out(h:Cm P c e x):iM P (Cm P) c e x:=by
 obtain⟨n,t,rfl,h⟩:=h;cases n with
 |zero=>symm
 |succ n=>
 replace h:ok1 P (kD P n) (tW P n) c x t=true:=h;show iM P (Cm P) c (Te P (kD P n) c x t) x;cases x
 case val d=>exact Td h
 case slot i=>exact .var (dU h).1 (dU h).2.1 (dU h).2.2
 case bin op a b=>exact .bin (.mk (aq h).1) (.mk (aq h).2)
 case cmp op a b=>exact .cmp (.mk (aq h).1) (.mk (aq (aq h).2).1) (tU (aq (aq h).2).2)
 case chain a ops xs=>
  obtain⟨h1,h2⟩:=aq h;obtain⟨h3,h4⟩:=aq h2;obtain⟨h5,h6⟩:=aq h4;have l1:=dec (aq h6).1;have l2:=dec (aq h6).2
  match ops,l1,xs,l2,h3,h5 with
  |_::_::_,_,_::_::_,_,h3,h5=>exact .chain (.mk h1) (iO (R:=Cm P c) .mk h3) (tU h5)
 case neg a=>exact .neg (.mk h)
 case not a=>exact .not (.mk h)
 case and xs=>exact .and (iO (R:=Cm P c) .mk h)
 case or xs=>exact .or (iO (R:=Cm P c) .mk h)
 case ite a b d=>exact .ite (.mk (aq h).1) (.mk (aq (aq h).2).1) (.mk (aq (aq h).2).2)
 case tup xs=>exact .tup (iO (R:=Cm P c) .mk h)
 case lst xs=>exact .lst (iO (R:=Cm P c) .mk h)
 case ix a b=>exact .ix (.mk (aq h).1) (.mk (aq h).2)
 case slice a lo hi=>exact .slice (.mk (aq h).1) (Hi (R:=Cm P c) .mk (aq (aq h).2).1) (Hi (R:=Cm P c) .mk (aq (aq h).2).2)
 case call i xs=>
  obtain⟨h1,h2⟩:=aq h;obtain⟨h3,h4⟩:=aq h2;obtain⟨fi,q1,q2⟩:=Mr h1;cases xs with
  |nil=>cases (aq h4).2
  |cons x xs=>exact .call q1 q2 (dec h3) (iO (R:=Cm P c) .mk (aq h4).1)
 case blt b xs=>
  cases xs with
  |nil=>cases (aq (aq h).2).2
  |cons x xs=>exact .blt rfl (bf (aq h).1).1 (bf (aq h).1).2 (iO (R:=Cm P c) .mk (aq (aq h).2).1)
 case pB a n=>exact .pB (.mk (aq (aq h).2).1) (bf (aq h).1).1 (bf (aq h).1).2 (bf (aq (aq (aq h).2).2).2).1 (bf (aq (aq (aq h).2).2).2).2 rfl (CC.mp (aq (aq (aq h).2).2).1)
 case comp n' k T it co xe=>obtain⟨h1,a1⟩:=aq h;clear h;obtain⟨h2,a2⟩:=aq a1;obtain⟨h3,a3⟩:=aq a2;obtain⟨h4,a4⟩:=aq a3;obtain⟨h5,a5⟩:=aq a4;obtain rfl:=dec h1;exact .comp (aq h2).1 (aq (aq h2).2).1 (gS (aq (aq h2).2).2) (lM h3) (tV h4) (pL (R:=Cm P c) .mk h5) (yG (R:=Cm P (jT c t)) .mk (aq a5).1) (.mk (aq a5).2)
 case iK n' k T it ks xv=>obtain⟨h1,a1⟩:=aq h;clear h;obtain⟨h2,a2⟩:=aq a1;obtain⟨h3,a3⟩:=aq a2;obtain⟨h4,a4⟩:=aq a3;obtain⟨h5,a5⟩:=aq a4;obtain rfl:=dec h1;exact .iK (aq h2).1 (aq (aq h2).2).1 (gS (aq (aq h2).2).2) (lM h3) (tV h4) (pL (R:=Cm P c) .mk h5) (iO (R:=Cm P (jT c t)) .mk (aq a5).1) (.mk (aq a5).2)
 case cK n' k T1 ki c1 T it co xe=>obtain⟨h1,a1⟩:=aq h;clear h;obtain⟨h2,a2⟩:=aq a1;obtain⟨h3,a3⟩:=aq a2;obtain⟨h4,a4⟩:=aq a3;obtain⟨h5,a5⟩:=aq a4;obtain⟨h6,h7⟩:=aq a5;obtain rfl:=dec h1;exact .cK (aq h2).1 (aq (aq h2).2).1 (gS (aq (aq h2).2).2) (lM (aq h3).1) (lM (aq h3).2) (tV (aq h4).1) (tV (aq h4).2) (pL (R:=Cm P c) .mk (aq h5).1) (yG (R:=Cm P (jT c t)) .mk (aq h5).2) (pL (R:=Cm P (jT c t)) .mk (aq h6).1) (yG (R:=Cm P (jT c t)) .mk (aq h6).2) (.mk h7)
 case rev a=>exact .rev (.mk h)
 case cT a=>exact .cT (.mk (aq h).2) (bf (aq (aq h).1).1).1 (bf (aq (aq h).1).1).2 (bf (aq (aq h).1).2).1 (bf (aq (aq h).1).2).2
 case fY a b=>exact .fY (.mk (aq (aq h).2).1) (.mk (aq (aq h).2).2) (bf (aq (aq h).1).1).1 (bf (aq (aq h).1).1).2 (bf (aq (aq h).1).2).1 (bf (aq (aq h).1).2).2
 case gR a=>exact .gR (.mk (aq h).2) (bf (aq h).1).1 (bf (aq h).1).2
 case meth m o x=>exact .meth (.mk (aq (aq h).2).1) (.mk (aq (aq h).2).2) rfl (aq h).1
 case append i x=>exact .append (dU (aq (aq h).2).1).1 (dU (aq (aq h).2).1).2.1 (dU (aq (aq h).2).1).2.2 (.mk (aq (aq h).2).2) (aq h).1
 case extend i x=>exact .extend (dU (aq (aq h).2).1).1 (dU (aq (aq h).2).1).2.1 (dU (aq (aq h).2).1).2.2 (.mk (aq (aq h).2).2) (aq h).1
 case ig i x=>exact .ig (dU (aq (aq h).2).1).1 (dU (aq (aq h).2).1).2.1 (dU (aq (aq h).2).1).2.2 (.mk (aq (aq h).2).2) (aq h).1
 all_goals exact nt h
abbrev CQ (P:Pg) (c:Ct) (es:List Expr) (xs:List Ex):Prop:=jm (Cm P c) es xs
abbrev CmO (P:Pg) (c:Ct) (e:Option Expr) (x:Option Ex):Prop:=CN (Cm P c) e x
abbrev yI (P:Pg) (c:Ct) (es:List Expr) (x:Option Ex):Prop:=pG (Cm P c) es x
abbrev Tf (P:Pg) (c:Ct) (e:Expr) (x:Ex):Prop:=kB P (Cm P c) c e x
noncomputable def ek(t:Stmt):List Expr:=match t with
 |.Return o p=>[o.getD (.Name Str.empty p)]
 |.Assign ts e _=>e::ts
 |.AugAssign a _ e _=>[a,e]
 |.For a b _ _ _=>[a,b]
 |.While a _ _ _=>[a]
 |.If a _ _ _=>[a]
 |.Raise o _ p=>[o.getD (.Name Str.empty p)]
 |.Expr e _=>[e]
 |_=>[]
def aM(t:Stmt)(i:Nat):Expr:=(ek t).getD i (.Name Str.empty t.pos)
noncomputable def Jz(t:Stmt):List Stmt:=match t with |.For _ _ b _ _=>b |.While _ b _ _=>b |.If _ b _ _=>b |_=>[]
noncomputable def bd1(t:Stmt):List Stmt:=match t with |.If _ _ b _=>b |_=>[]
noncomputable def sg(l:List Stmt)(i:Nat):Stmt:=l.getD i (.Pass p0)
def Yl(e:Expr):Bool:=match e with |.Tuple _ _ _=>false |_=>true
def Ti:Sm->Nat
 |.rows _ _ _ _ _=>3
 |_=>0
def qJ(fg:Sm->List Stmt->List Stmt)(fs:Sm->Stmt->Stmt):List Sm->List Stmt->List Stmt
 | [],_=>[]
 |x::xs,ss=>if 0<Ti x then fg x (ss.take (Ti x))++qJ fg fs xs (ss.drop (Ti x))else fs x (sg ss 0)::qJ fg fs xs ss.tail
def JB(fg:Sm->List Stmt->Bool)(fs:Sm->Stmt->Bool):List Sm->List Stmt->Bool
 | [],_=>true
 |x::xs,ss=>if 0<Ti x then fg x (ss.take (Ti x))&&JB fg fs xs (ss.drop (Ti x))else fs x (sg ss 0)&&JB fg fs xs ss.tail
theorem Tj{RG:List Stmt->Sm->Prop}{RS:Stmt->Sm->Prop}{sg':Sm->List Stmt->List Stmt}{kg:Sm->List Stmt->Bool}{ss':Sm->Stmt->Stmt}{ks:Sm->Stmt->Bool}(hg:∀{x ss},kg x ss=true->RG (sg' x ss) x)(hs:∀{x t},ks x t=true->RS (ss' x t) x){xs:List Sm}{ss:List Stmt}(h:JB kg ks xs ss=true):pH RG RS (qJ sg' ss' xs ss) xs:=by
 induction xs generalizing ss with
 |nil=>exact .nil
 |cons x xs ih=>
  unfold JB at h;unfold qJ;by_cases hx:0<Ti x
  .
   rw[fN hx]at h ⊢
   exact .grp (hg (aq h).1) (ih (aq h).2)
  .
   rw[hU hx]at h ⊢
   exact .cons (hs (aq h).1) (ih (aq h).2)
def Ym(y a b:Str)(t:Stmt):Stmt:=.Expr (.Call (.Attribute (.Subscript (.Name y (kid (kid (kid (aM t 0) 0) 0) 0).pos) (.Name a (kid (kid (kid (aM t 0) 0) 0) 1).pos) (kid (kid (aM t 0) 0) 0).pos) "append" (kid (aM t 0) 0).pos) [.Name b (kid (aM t 0) 1).pos] [] (aM t 0).pos) t.pos
noncomputable def nmE(e:Expr):Str:=(Mf e).getD Str.empty
def bvK(c:Ct)(sc:Scope)(x:Str):Bool:=v8 c.sc sc&&(iL c.N (pI c.N sc) sc (iN sc).length&&(pJ (pI c.N sc)&&(decide ((iN sc).idxOf x<(iN sc).length/\(pI c.N sc)[c.N.length+(iN sc).idxOf x]?=some x)&&fG ⟨pI c.N sc,sc,false,Str.empty⟩ x)))
def O7(c:Ct)(im it iy ia ib:Nat)(ss:List Stmt):List Stmt:=
 [.Assign [.Name (nm c iy) (aM (sg ss 0) 1).pos] (.ListComp (.List [] (kid (aM (sg ss 0) 0) 0).pos) [⟨.Name (nmE (kid (aM (sg ss 0) 0) 1)) (kid (aM (sg ss 0) 0) 1).pos,.Call (.Name "range" (kid (kid (aM (sg ss 0) 0) 2) 0).pos) [.Name (nm c im) (kid (kid (aM (sg ss 0) 0) 2) 1).pos] [] (kid (aM (sg ss 0) 0) 2).pos,[],0⟩] (lK (aM (sg ss 0) 0)) (aM (sg ss 0) 0).pos) (sg ss 0).pos,
 .For (.Tuple [.Name (nm c ia) (kid (aM (sg ss 1) 0) 0).pos,.Name (nm c ib) (kid (aM (sg ss 1) 0) 1).pos] (wc (aM (sg ss 1) 0)) (aM (sg ss 1) 0).pos) (.Name (nm c it) (aM (sg ss 1) 1).pos) [Ym (nm c iy) (nm c ia) (nm c ib) (sg (Jz (sg ss 1)) 0),Ym (nm c iy) (nm c ib) (nm c ia) (sg (Jz (sg ss 1)) 1)] [] (sg ss 1).pos,
 .Return (some (.Name (nm c iy) (aM (sg ss 2) 0).pos)) (sg ss 2).pos]
def O8(P:Pg)(c:Ct)(im it iy ia ib:Nat)(ss:List Stmt):Bool:=decide (ia≠iy/\ib≠iy/\ia≠ib)&&(lJ c im&&(lJ c it&&((lJ c iy&&DQ c (nm c iy) (aM (sg ss 0) 1).pos (aM (sg ss 0) 0).pos (lK (aM (sg ss 0) 0)))&&((lJ c ia&&fG c (nm c ia))&&((lJ c ib&&fG c (nm c ib)) &&
 (bvK c (lK (aM (sg ss 0) 0)) (nmE (kid (aM (sg ss 0) 0) 1))&&(yF P c "range" && (Vw (aM (sg (Jz (sg ss 1)) 0) 0)&&Vw (aM (sg (Jz (sg ss 1)) 1) 0)))))))))
theorem Hl{P:Pg}{R:Expr->Ex->Prop}{RS:Stmt->Sm->Prop}{c:Ct}{im it iy ia ib:Nat}{ss:List Stmt}(h:O8 P c im it iy ia ib ss=true):Mp P R RS c (O7 c im it iy ia ib ss) (.rows im it iy ia ib):=by obtain⟨h1,a1⟩:=aq h;clear h;obtain⟨h2,a2⟩:=aq a1;obtain⟨h3,a3⟩:=aq a2;obtain⟨h4,a4⟩:=aq a3;obtain⟨h5,a5⟩:=aq a4;obtain⟨h6,a6⟩:=aq a5;obtain⟨h7,a7⟩:=aq a6;obtain⟨h8,a8⟩:=aq a7;obtain⟨k1,k2⟩:=aq (aq h7).2;exact .rows (dU h2) (dU h3) ⟨(dU (aq h4).1).1,(aq h4).2,(dU (aq h4).1).2.2⟩ ⟨dU (aq h5).1,(aq h5).2⟩ ⟨dU (aq h6).1,(aq h6).2⟩ (dec h1) ⟨(dec (aq (aq k2).2).1).1,(aq h7).1,k1,gS (aq k2).1,(dec (aq (aq k2).2).1).2,(aq (aq k2).2).2⟩ (bf h8) (aq a8).1 (aq a8).2
def Tp(P:Pg)(m:Nat)(fs:Sm->Stmt->Stmt)(c:Ct)(x:Sm)(ss:List Stmt):List Stmt:=match x with
 |.rows im it iy ia ib=>O7 c im it iy ia ib ss
 |_=>ss
def Tq(P:Pg)(m:Nat)(ks:Sm->Stmt->Bool)(c:Ct)(x:Sm)(ss:List Stmt):Bool:=match x with
 |.rows im it iy ia ib=>O8 P c im it iy ia ib ss
 |_=>false
theorem Tr{P:Pg}{m:Nat}{RS:Stmt->Sm->Prop}{fs:Sm->Stmt->Stmt}{ks:Sm->Stmt->Bool}(hs:∀{x t},ks x t=true->RS (fs x t) x){c:Ct}{x:Sm}{ss:List Stmt}(h:Tq P m ks c x ss=true):Mp P (Cm P c) RS c (Tp P m fs c x ss) x:=by
 cases x
 case rows im it iy ia ib=>exact Hl h
 all_goals exact nt h
def Yn(P:Pg)(m:Nat)(fs:Sm->Stmt->Stmt)(c:Ct)(x:Sm)(t:Stmt):Stmt:=match x with
 |.ret x=>.Return (some (kD P (m+1) c x (aM t 0))) t.pos
 |.expr x=>.Expr (kD P (m+1) c x (aM t 0)) t.pos
 |.set i x=>.Assign [.Name (nm c i) (aM t 1).pos] (kD P (m+1) c x (aM t 0)) t.pos
 |.setC i x=>.Assign [.Name (nm c i) (aM t 1).pos] (kD P (m+1) c x (aM t 0)) t.pos
 |.tgt T x=>.Assign [yH c T (aM t 1)] (kD P (m+1) c x (aM t 0)) t.pos
 |.item i xj x=>.Assign [.Subscript (.Name (nm c i) (kid (aM t 1) 0).pos) (kD P (m+1) c xj (kid (aM t 1) 1)) (aM t 1).pos] (kD P (m+1) c x (aM t 0)) t.pos
 |.aug i op x=>.AugAssign (.Name (nm c i) (aM t 0).pos) op (kD P (m+1) c x (aM t 1)) t.pos
 |.items2 i x j y e=>.Assign [.Tuple [.Subscript (.Name (nm c i) (kid (kid (aM t 1) 0) 0).pos) (kD P (m+1) c x (kid (kid (aM t 1) 0) 1)) (kid (aM t 1) 0).pos,.Subscript (.Name (nm c j) (kid (kid (aM t 1) 1) 0).pos) (kD P (m+1) c y (kid (kid (aM t 1) 1) 1)) (kid (aM t 1) 1).pos] (wc (aM t 1)) (aM t 1).pos] (kD P (m+1) c e (aM t 0)) t.pos
 |.ite e a b=>.If (kD P (m+1) c e (aM t 0)) (qJ (Tp P m fs c) fs a (Jz t)) (qJ (Tp P m fs c) fs b (bd1 t)) t.pos
 |.loop T it b=>.For (yH c T (aM t 0)) (CP (kD P (m+1) c) it (aM t 1)) (qJ (Tp P m fs c) fs b (Jz t)) [] t.pos
 |.while e b=>.While (kD P (m+1) c e (aM t 0)) (qJ (Tp P m fs c) fs b (Jz t)) [] t.pos
 |_=>t
def Yo(P:Pg)(m:Nat)(ks:Sm->Stmt->Bool)(c:Ct)(x:Sm)(t:Stmt):Bool:=match x with
 |.ret x=>tW P (m+1) c x (aM t 0)
 |.expr x=>tW P (m+1) c x (aM t 0)&&!kC (λ_ _=>true) (kD P (m+1) c x (aM t 0))
 |.set i x=>stB c i&&(tW P (m+1) c x (aM t 0)&&!kC (λs p=>DQ c (nm c i) (aM t 1).pos p s) (kD P (m+1) c x (aM t 0)))
 |.setC i x=>decide (c.N[i]?=some (nm c i))&&(DQ c (nm c i) (aM t 1).pos (aM t 0).pos (lK (aM t 0))&&(tW P (m+1) c x (aM t 0)&&(match x with
  |.comp _ _ _ _ _ _=>true
  |.cK _ _ _ _ _ _ _ _ _=>true
  |_=>false)))
 |.tgt T x=>(match T with |.tp is=>Yl (kD P (m+1) c x (aM t 0))||Ma c (Mu c (aM t 1) 0 is) (kD P (m+1) c x (aM t 0)) |_=>false)&&(okN c T.ix&&(tW P (m+1) c x (aM t 0)&&!kC (λ_ _=>true) (kD P (m+1) c x (aM t 0))))
 |.item i xj x=>lJ c i&&(tW P (m+1) c xj (kid (aM t 1) 1)&&(tW P (m+1) c x (aM t 0)&&!kC (λ_ _=>true) (kD P (m+1) c x (aM t 0))))
 |.aug i _ x=>stB c i&&tW P (m+1) c x (aM t 1)
 |.items2 i x j y e=>(lJ c i&&lJ c j)&&((tW P (m+1) c x (kid (kid (aM t 1) 0) 1)&&tW P (m+1) c y (kid (kid (aM t 1) 1) 1))&&(tW P (m+1) c e (aM t 0)&&!kC (λ_ _=>true) (kD P (m+1) c e (aM t 0))))
 |.ite e a b=>tW P (m+1) c e (aM t 0)&&(JB (Tq P m ks c) ks a (Jz t)&&JB (Tq P m ks c) ks b (bd1 t))
 |.loop T it b=>okN c T.ix&&(Vv P c (tW P (m+1) c) it (aM t 1)&&JB (Tq P m ks c) ks b (Jz t))
 |.while e b=>tW P (m+1) c e (aM t 0)&&JB (Tq P m ks c) ks b (Jz t)
 |.stuck=>true
 |_=>false
def O9(P:Pg)(m:Nat):Nat->Ct->Sm->Stmt->Stmt
 | 0=>λ_ _ t=>t
 |n+1=>λc=>Yn P m (O9 P m n c) c
def Pa(P:Pg)(m:Nat):Nat->Ct->Sm->Stmt->Bool
 | 0=>λ_ _ _=>false
 |n+1=>λc=>Yo P m (Pa P m n c) c
def JC(P:Pg)(c:Ct)(s:Stmt)(x:Sm):Prop:=∃m n t,s=O9 P m n c x t/\Pa P m n c x t=true
abbrev Ho (P:Pg) (c:Ct) (ss:List Stmt) (xs:List Sm):Prop:=pH (Mp P (Cm P c) (JC P c) c) (JC P c) ss xs
theorem JC.mk{P:Pg}{m n:Nat}{c:Ct}{x:Sm}{t:Stmt}(h:Pa P m n c x t=true):JC P c (O9 P m n c x t) x:=⟨m,n,t,rfl,h⟩
theorem Ho.mk{P:Pg}{m n:Nat}{c:Ct}{xs:List Sm}{ss:List Stmt}(h:JB (Tq P m (Pa P m n c) c) (Pa P m n c) xs ss=true):Ho P c (qJ (Tp P m (O9 P m n c) c) (O9 P m n c) xs ss) xs:=Tj (Tr .mk) .mk h
theorem Z4{e:Expr}(h:(!kC (λ_ _=>true) e)=true):kC (λ_ _=>true) e=false:=tU h
theorem JC.out{P:Pg}{c:Ct}{s:Stmt}{x:Sm}(h:JC P c s x):jM P (Cm P c) (JC P c) c s x:=by
 obtain⟨m,n,t,rfl,h⟩:=h;cases n with
 |zero=>symm
 |succ n=>
 replace h:Yo P m (Pa P m n c) c x t=true:=h;show jM P (Cm P c) (JC P c) c (Yn P m (O9 P m n c) c x t) x;cases x
 case ret x=>exact .ret (.mk h)
 case expr x=>exact .expr (.mk (aq h).1) (Z4 (aq h).2)
 case set i x=>have w:=(aq (aq h).2).2;exact .set (dec (aq (aq h).1).1) (aq (aq h).1).2 (.mk (aq (aq h).2).1) (tU w)
 case setC i x=>
  obtain⟨h1,h2⟩:=aq h;clear h;obtain⟨h3,h4⟩:=aq h2;obtain⟨h5,h6⟩:=aq h4;cases x
  case comp n' kk T it co xe=>exact .setC (dec h1) h3 (.mk h5)
  case cK n' kk T1 ki c1 T it co xe=>exact .O6 (dec h1) h3 (.mk h5)
  all_goals exact Bool.noConfusion (show false=true from h6)
 case tgt T x=>
  obtain⟨h1,h2⟩:=aq h;clear h;obtain⟨h3,h4⟩:=aq h2;cases T with
  |nm i=>cases h1
  |tp is=>exact .tgt (lM h3) (.mk (aq h4).1) (((sK _ _).mp h1).imp (λh vs k p q=>by rw[q]at h;symm) id) (Z4 (aq h4).2)
 case item i xj x=>exact .item (dU (aq h).1).1 (dU (aq h).1).2.1 (dU (aq h).1).2.2 (.mk (aq (aq h).2).1) (.mk (aq (aq (aq h).2).2).1) (Z4 (aq (aq (aq h).2).2).2)
 case aug i op x=>exact .aug (dec (aq (aq h).1).1) (aq (aq h).1).2 (.mk (aq h).2)
 case items2 i x j y e=>obtain⟨h1,h2⟩:=aq h;clear h;obtain⟨h3,h4⟩:=aq h2;exact .items2 (dU (aq h1).1).1 (dU (aq h1).1).2.1 (dU (aq h1).1).2.2 (dU (aq h1).2).1 (dU (aq h1).2).2.1 (dU (aq h1).2).2.2 (.mk (aq h3).1) (.mk (aq h3).2) (.mk (aq h4).1) (Z4 (aq h4).2)
 case ite e a b=>exact .ite (.mk (aq h).1) (Ho.mk (aq (aq h).2).1) (Ho.mk (aq (aq h).2).2)
 case loop T it b=>exact .loop (lM (aq h).1) (pL (R:=Cm P c) .mk (aq (aq h).2).1) (Ho.mk (aq (aq h).2).2)
 case «while» e b=>exact .while (.mk (aq h).1) (Ho.mk (aq h).2)
 case stuck=>exact .stuck
 all_goals exact nt h
noncomputable def CT(e:Expr):Bool:=match e with
 |.Constant .. |.Name .. |.BinOp .. |.Compare .. |.UnaryOp .. |.BoolOp .. |.IfExp .. |.Tuple .. |.List .. |.Subscript .. |.Call .. |.JoinedStr .. |.ListComp .. |.Dict .. |.DictComp ..=>true
 |_=>false
theorem Cm.CT{P:Pg}{c:Ct}{e:Expr}{x:Ex}(h:Cm P c e x):CT e=true:=by
 obtain⟨n,t,rfl,h⟩:=h;cases n with
 |zero=>symm
 |succ n=>
 replace h:ok1 P (kD P n) (tW P n) c x t=true:=h;show Ev.CT (Te P (kD P n) c x t)=true;cases x
 case val d=>show Ev.CT (Hj d t)=true;unfold Hj;split <;> rfl
 all_goals first |rfl |exact nt h
section
theorem Cm.star(h:Cm P c e x)(es:List Expr):starEach (e::es) env=(false,eval e env)::starEach es env:=by have hs:=h.CT;cases e <;> first |rfl |exact Bool.noConfusion (show false=true from hs)
theorem jm.star(h:CQ P c es xs):starEach es env=es.map λe=>(false,eval e env):=by
 induction es generalizing xs with
 |nil=>rfl
 |cons e es ih=>
  cases h with
  |cons h1 h2=>rw[h1.star,ih h2];rfl
theorem jm.plain(h:CQ P c es xs):(backTo pos (starEach es env)).any (·.1)=false:=by
 rw[h.star];unfold backTo
 induction es generalizing xs with
 |nil=>rfl
 |cons e es ih=>
  cases h with
  |cons h1 h2=>rw[List.map_cons,List.map_cons,List.any_cons,ih h2];rfl
theorem Cm.folded(h:Cm P c e x)(y:Value):foldedSetIterable e env y=pure y:=by have hs:=h.CT;cases e <;> first |rfl |exact Bool.noConfusion (show false=true from hs)
theorem kB.folded(h:Tf P c e x)(y:Value):foldedSetIterable e env y=pure y:=by
 cases h with
 |seq h=>exact h.folded y
 |dD _ _ _=>rfl
 |cL _ _ _ _=>rfl
 |nG _ _ _ _ _=>rfl
 |enum _ _ _=>rfl
 |zip _ _ _ _=>rfl
theorem Cm.Mw(h:Cm P c e x):sP e:=by have hs:=h.CT;cases e <;> first |exact λ_ _=>rfl |exact Bool.noConfusion (show false=true from hs)
end
structure mS(P:Pg)(rn:Rn):Prop where
 e:∀{X:Cx}{c:Ct}{z:Z}{k:Nat}{x:Ex}{e:Expr}{g g':G}{r:R},bD P k X c->z.K=X.K->Cm P c e x->rn.e z.bor k x g=some (r,g')->aA X z e g r g'
 t:∀{X:Cx}{c:Ct}{z:Z}{k:Nat}{x:Ex}{e:Expr}{g g':G}{b:Bool},bD P k X c->z.K=X.K->Cm P c e x->rn.t z.bor k x g=some (b,g')->dI X z e g b g'
 b:∀{X:Cx}{c:Ct}{z:Z}{k:Nat}{xs:List Sm}{uQ:List Stmt}{g g':G}{f:Fl},bD P k X c->c.df=true->z.K=X.K->Ho P c uQ xs->rn.b z.bor k xs g=some (f,g')->fD X z uQ g f g'
theorem fh(h:iL N N' scope k=true):Names N N' scope k:=by
 unfold iL at h;simp only[dE,dL,eM,mI]at h;obtain⟨⟨h1,h2⟩,h3⟩:=h;refine⟨h1,λx e=>?_,λi x e hi=>?_⟩
 . rw[e]at h2;exact l9 h2
 . have h4:=h3 i hi;rw[e]at h4;simp only[sK,dE,dL]at h4;exact h4
theorem je(ct:bD P k X c)(h:v8 c.sc scope=true):bR X.env.scope scope:=by
 unfold v8 at h;simp only[dE,dL,eM,sK]at h;obtain⟨h1,h2⟩:=h;refine⟨h1,λy hy=>(h2 y hy).1.1,λy hy e=>?_,λy hy e=>?_,λy hy e=>?_⟩
 . exact ((h2 y hy).1.2).elim (λq=>absurd e q) id
 . exact ((h2 y hy).2).elim (λq=>absurd e q) λq=>q.1
 . exact ((h2 y hy).2).elim (λq=>absurd e q) λq=>ct.fre _ q.2
theorem jN{X:Cx}{N':List Str}{scope:Scope}{b:Bk}{x:Str}:(X.blk N' scope b).env.scope.names.lookup x=(scope.names.lookup x).map λk=>if (k==NameKind.free&&X.env.scope.kind==.function&&X.env.kindOf x==some .cell)then NameKind.cell else k:=eS
theorem bD.blk{P:Pg}{k:Nat}{X:Cx}{c:Ct}{scope:Scope}{N':List Str}(ct:bD P k X c)(hnd:N'.Nodup)(b:Bk):bD P k (X.blk N' scope b) ⟨N',scope,false,Str.empty⟩:=by
 refine⟨rfl,hnd,λx e=>?_,λx e=>?_,λx e=>?_,λe=>absurd e ⋯,λx e=>?_,λe=>absurd e ⋯,ct.calm,rfl,ct.md,ct.room,λe=>absurd (show Str.empty=("law":Str)from e) ⋯⟩
 . have e':scope.names.lookup x=some .local:=e;rw[jN,e'];rfl
 . have e':scope.names.lookup x=some .globalImplicit:=e;show (X.blk N' scope b).env.scope.names.lookup x=_;rw[jN,e'];rfl
 .
  rw[jN];rcases e with e |e
  . have e':scope.names.lookup x=some .cell:=e;rw[e'];exact .inl rfl
  .
   have e':scope.names.lookup x=some .free:=e;rw[e',BO];by_cases hq:(NameKind.free==NameKind.free&&X.env.scope.kind==.function&&X.env.kindOf x==some .cell)=true
   . rw[fN hq];exact .inl rfl
   . rw[hU hq];exact .inr rfl
 .
  rcases e with e |e
  . cases e
  . have e':scope.names.lookup x=some .local:=e;show (scope.names.lookup x==some .local)=true;rw[e'];rfl
section
theorem bU(h:aA X z e g r g'):aA X z e g (norm r) g':=by
 cases r with
 |dat d=>exact h
 |new l=>exact oJ h
 |var i=>exact h
theorem Hq(h:aA X z e g r g1)(hd:toD z.bor r g1=some (d,g')):aA X z e g (.dat d) g':=by
 cases r with
 |dat d'=>cases hd;exact h
 |new l=>cases hd;exact oJ h
 |var i=>
  have hd:(if i∈z.bor then none else match g1[i]? with |some (.own l)=>some (D.lst l,g1.set i (.dat (.lst l))) |_=>none)=some (d,g'):=hd
  split at hd
  . cases hd
  .
   rename_i hb;split at hd
   . rename_i l hg;cases hd;exact Bm h hg hb
   . cases hd
theorem aP(hS:mS P rn)(ct:bD P k X c)(hK:z.K=X.K)(hc:Cm P c e x)(h:eE rn z.bor k x g=some (d,g')):aA X z e g (.dat d) g':=by
 unfold eE at h;left
 . rename_i r g1 e1;exact Hq (hS.e ct hK hc e1) h
 . symm
theorem kF:∀(ds:List D),tB (ds.map R.dat)=some ds
 | []=>rfl
 |d::ds=>by
  show (match tB (ds.map R.dat)with |some ds=>some (d::ds) |none=>none)=_
  rw[kF ds]
theorem iP(hS:mS P rn)(ct:bD P k X c)(hK:z.K=X.K):∀{es:List Expr}{xs:List Ex}{g g':G}{ds:List D},CQ P c es xs->ku rn z.bor k xs g=some (ds,g')->cZ X z es g (ds.map .dat) g'
 |_,_,_,_,_,.nil,h=>by symm;exact dO
 |_,_,_,_,_,.cons h1 h2,h=>by
  unfold ku at h;left
  .
   rename_i d g1 e1;left
   . rename_i ds g2 e2;symm;exact cI (aP hS ct hK h1 e1) (iP hS ct hK h2 e2) (h1.star _)
   . symm
  . symm
theorem pM(hS:mS P rn)(ct:bD P k X c)(hK:z.K=X.K):∀{es:List Expr}{xs:List Ex}{g g':G}{rs:List R},CQ P c es xs->argsR rn z.bor k xs g=some (rs,g')->cZ X z es g rs g'
 |_,_,_,_,_,.nil,h=>by symm;exact dO
 |_,_,_,_,_,.cons h1 h2,h=>by
  unfold argsR at h;left
  .
   rename_i r g1 e1;left
   .
    rename_i rs g2 e2;symm;have q:=bU (hS.e ct hK h1 e1);have q2:=pM hS ct hK h2 e2;cases r with
    |dat d=>exact cI q q2 (h1.star _)
    |new l=>exact cI q q2 (h1.star _)
    |var i=>exact Ff q q2 (h1.star _)
   . symm
  . symm
theorem jf(h:argsR rn bor k [a,b] g=some (rs,g2)):∃r1 r2 g1,rn.e bor k a g=some (r1,g1)/\rn.e bor k b g1=some (r2,g2)/\rs=[norm r1,norm r2]:=by
 unfold argsR at h;left
 .
  rename_i r1 g1 e1;unfold argsR at h;left
  .
   rename_i rs' g3 e3;split at e3
   . rename_i r2 g4 e2;unfold argsR at e3;cases e3;symm;exact⟨r1,r2,g1,e1,e2,rfl⟩
   . cases e3
  . symm
 . symm
theorem yJ(hS:mS P rn)(ct:bD P k X c)(hK:z.K=X.K):∀{bs:List Expr}{xs:List Ex}{ops:List CmpOp}{g g':G}{d1:D}{b:Bool},CQ P c bs xs->DN rn z.bor k d1 ops xs g=some (b,g')->tH X z d1 ops bs g b g'
 |_,_,[],_,_,_,_,.nil,h=>by symm
 |_,_,[_],_,_,_,_,.nil,h=>by unfold DN at h;symm
 |_,_,_::_::_,_,_,_,_,.nil,h=>by unfold DN at h;symm
 |_,_,[],_,_,_,_,.cons _ _,h=>by unfold DN at h;symm
 |_,_,[op],_,_,d1,_,.cons h1 .nil,h=>by
  unfold DN at h;left
  .
   rename_i d2 g1 e1;left
   . rename_i b e2;symm;exact .last (aP hS ct hK h1 e1) (pF hK ct.room e2)
   . symm
  . symm
 |_,_,op::op'::ops,_,_,d1,_,.cons h1 .nil,h=>by unfold DN at h;symm
 |_,_,[op],_,_,d1,_,.cons h1 (.cons h2 h3),h=>by unfold DN at h;symm
 |_,_,op::op'::ops,_,_,d1,_,.cons h1 (.cons h2 h3),h=>by
  unfold DN at h;left
  .
   rename_i d2 g1 e1;left
   . rename_i e2;exact .link (aP hS ct hK h1 e1) (pF hK ct.room e2) (yJ hS ct hK (.cons h2 h3) h)
   . rename_i e2;symm;exact .stop (aP hS ct hK h1 e1) (pF hK ct.room e2)
   . symm
  . symm
theorem zS(hS:mS P rn)(ct:bD P k X c)(hK:z.K=X.K):∀{es:List Expr}{xs:List Ex}{g g':G}{r:R},CQ P c es xs->G6 rn z.bor k xs g=some (r,g')->aA X z (.BoolOp .And es pos) g r g'
 |_,_,_,_,_,.nil,h=>by symm
 |_,_,_,_,_,.cons h1 .nil,h=>Fe (hS.e ct hK h1 h)
 |_,_,_,_,_,.cons h1 (.cons h2 h3),h=>by
  unfold G6 at h;left
  . rename_i g1 e1;exact KD (hS.e ct hK h1 e1) (zS hS ct hK (.cons h2 h3) h)
  . rename_i g1 e1;symm;exact KC (hS.e ct hK h1 e1)
  . symm
theorem Hr(hS:mS P rn)(ct:bD P k X c)(hK:z.K=X.K):∀{es:List Expr}{xs:List Ex}{g g':G}{r:R},CQ P c es xs->X6 rn z.bor k xs g=some (r,g')->aA X z (.BoolOp .Or es pos) g r g'
 |_,_,_,_,_,.nil,h=>by symm
 |_,_,_,_,_,.cons h1 .nil,h=>Fe (hS.e ct hK h1 h)
 |_,_,_,_,_,.cons h1 (.cons h2 h3),h=>by
  unfold X6 at h;left
  . rename_i g1 e1;exact Q7 (hS.e ct hK h1 e1) (Hr hS ct hK (.cons h2 h3) h)
  . rename_i g1 e1;symm;exact Q6 (hS.e ct hK h1 e1)
  . symm
theorem wg(hS:mS P rn)(ct:bD P k X c)(hK:z.K=X.K):∀{es:List Expr}{xs:List Ex}{g g':G}{b:Bool},CQ P c es xs->vY rn z.bor k xs g=some (b,g')->nu X z (.BoolOp .And es pos) g b g'
 |_,_,_,_,_,.nil,h=>by symm
 |_,_,_,_,_,.cons h1 .nil,h=>Kw (hS.t ct hK h1 h)
 |_,_,_,_,_,.cons h1 (.cons h2 h3),h=>by
  unfold vY at h;left
  . rename_i g1 e1;exact Kz (hS.t ct hK h1 e1) (wg hS ct hK (.cons h2 h3) h)
  . rename_i g1 e1;symm;exact Ky (hS.t ct hK h1 e1)
  . symm
theorem zT(hS:mS P rn)(ct:bD P k X c)(hK:z.K=X.K):∀{es:List Expr}{xs:List Ex}{g g':G}{b:Bool},CQ P c es xs->G7 rn z.bor k xs g=some (b,g')->nu X z (.BoolOp .Or es pos) g b g'
 |_,_,_,_,_,.nil,h=>by symm
 |_,_,_,_,_,.cons h1 .nil,h=>QX (hS.t ct hK h1 h)
 |_,_,_,_,_,.cons h1 (.cons h2 h3),h=>by
  unfold G7 at h;left
  . rename_i g1 e1;exact Q5 (hS.t ct hK h1 e1) (zT hS ct hK (.cons h2 h3) h)
  . rename_i g1 e1;symm;exact QZ (hS.t ct hK h1 e1)
  . symm
theorem wj(hS:mS P rn)(ct:bD P k X c)(hK:z.K=X.K)(hc:CmO P c e x)(h:zQ rn z.bor k x g=some (o,g')):tK X z e g o g':=by
 cases hc with
 |none=>symm;exact Bx
 |@some e' x' hc=>
  have h:(match eE rn z.bor k x' g with |some (.int i,g1)=>some (some i,g1) |_=>none)=some (o,g'):=h
  left
  . rename_i e1;symm;exact By (aP hS ct hK hc e1)
  . symm
theorem wk(ct:bD P k X c)(h:c.sc.names.lookup x=some .globalImplicit):Gl X x:=ct.qm x h
theorem pN(hS:mS P rn)(ct:bD P k X c)(hK:z.K=X.K)(htp:tp=true->∃es k pos,tg=.Tuple es k pos)(hc:Tf P c iter it)(h:cD rn z.bor k tp it g=some (aj,g')):dJ X z tg iter g aj g':=by
 cases hc with
 |nG ha hb' hs' hb hg=>
  unfold cD at h;dsimp only at h;left
  .
   rename_i c0 g1 e1;left
   .
    rename_i j g2 e2;left
    .
     rename_i st g3 e3;left
     . rename_i hj;symm;simp only[vZ,dE,dL]at hj;exact Lr (cI (aP hS ct hK ha e1) (cI (aP hS ct hK hb' e2) (cI (aP hS ct hK hs' e3) dO (hs'.star _)) (hb'.star _)) (ha.star _)) (wk ct hg) (ct.md.bn _ hb) (ha.star _) (jm.plain (.cons hb' (.cons hs' .nil))) hj.1 hj.2.1 ⟨hj.2.2.2,hj.2.2.1.2⟩
     . symm
    . symm
   . symm
  . symm
 |zip ha ha2 hb hg=>
  unfold cD at h;dsimp only at h;left
  .
   rename_i ht;obtain⟨es,k0,pos,rfl⟩:=htp ht;left
   .
    rename_i d1 d2 g1 e1;left
    .
     rename_i l m e2 e3;left
     . rename_i e4;symm;exact Se hK (iP hS ct hK (.cons ha (.cons ha2 .nil)) e1) e2 e3 e4 (wk ct hg) (ct.md.bn _ hb) (ha.star _) (by rw[ha2.star];rfl)
     . symm
    . symm
   . symm
  . symm
 |enum ha hb hg=>
  unfold cD at h;dsimp only at h;left
  .
   rename_i ht;obtain⟨es,k0,pos,rfl⟩:=htp ht;left
   .
    rename_i d g1 e1;left
    . rename_i l e2;symm;exact Ls hK (cI (aP hS ct hK ha e1) dO (ha.star _)) e2 (wk ct hg) (ct.md.bn _ hb) (ha.star _)
    . symm
   . symm
  . symm
 |dD ha hb hg=>
  unfold cD at h;dsimp only at h;left
  .
   rename_i j g1 e1;left
   . rename_i hj;symm;simp only[DP,dE,dL]at hj;exact K5 (cI (aP hS ct hK ha e1) dO (ha.star _)) (wk ct hg) (ct.md.bn _ hb) (by rw[ha.star];rfl) hj.1 hj.2
   . symm
  . symm
 |cL ha hb' hb hg=>
  unfold cD at h;dsimp only at h;left
  .
   rename_i c0 g1 e1;left
   .
    rename_i j g2 e2;left
    . rename_i hj;symm;simp only[DP,dE,dL]at hj;exact K6 (cI (aP hS ct hK ha e1) (cI (aP hS ct hK hb' e2) dO (hb'.star _)) (ha.star _)) (wk ct hg) (ct.md.bn _ hb) (by rw[ha.star,hb'.star];rfl) (by rw[hb'.star];rfl) ⟨hj.1.1,hj.1.2,hj.2.1,hj.2.2⟩
    . symm
   . symm
  . symm
 |seq hc=>
  have h':(match eE rn z.bor k it g with |some (.tup l,g1)=>some (l,g1) |some (.lst l,g1)=>some (l,g1) |some (.fix l,g1)=>some (l,g1) |_=>none)=some (aj,g'):=by cases hc.out <;> exact h
  split at h'
  . rename_i e1;cases h';exact RL hK (aP hS ct hK hc e1)
  . rename_i e1;cases h';exact RM (aP hS ct hK hc e1)
  . rename_i e1;cases h';exact RN hK (aP hS ct hK hc e1)
  . cases h'
theorem tY(hS:mS P rn)(ct:bD P k X c)(hK:z.K=X.K)(hc:yI P c ifs co)(h:mR rn z.bor k co g=some (b,g')):dG X z ifs g b g':=by
 cases hc with
 |none=>symm;exact K7
 |some hc=>exact K8 (hS.t ct hK hc h)
theorem wu(h:xC c tg T):T.eT=true->∃es k pos,tg=.Tuple es k pos:=by
 cases h with
 |nm _ _=>intro e;cases e
 |tp _=>intro _;exact⟨_,_,_,rfl⟩
theorem Tt(ct:bD P k X c)(h:CK c es is):j6 X es is:=by
 induction h with
 |nil=>exact .nil
 |cons h1 h2 _ ih=>exact .cons (ct.nm h1 h2) ih
theorem rK(ct:bD P k X c)(hK:z.K=X.K)(h:xC c tg T)(hb:∀i∈T.ix,i∉z.bor):gQ X z tg T:=by
 cases h with
 |nm h1 h2=>exact Xk (ct.nm h1 h2) (hb _ (eP.mpr rfl))
 |tp h1=>exact Xl ct.calm hK (Tt ct h1) hb
theorem tZ(hS:mS P rn){Xb:Bk->Cx}{cb:Ct}(Yp:∀b,bD P k (Xb b) cb)(Ov:∀b,z.K=(Xb b).K){T:Tg}{last:Nat}{ifs:List Expr}{co:Option Ex}{cO:Expr}{xe:Ex}(hi:yI P cb ifs co)(he:Cm P cb cO xe) :
  ∀{aj:List D}{g gE:G},yz rn z.bor k T last co xe aj g=some gE->jj T last (λg b g'=>∀bk:Bk,dG (Xb bk) z ifs g b g') (λg d g'=>∀bk:Bk,aA (Xb bk) z cO g (.dat d) g') aj g gE
 | [],_,_,h=>by symm;exact .nil
 |d::l,_,_,h=>by
  unfold yz at h;left
  . symm
  .
   rename_i g1 e1;left
   . symm
   . rename_i g2 e2;exact .skip e1 (λbk=>tY hS (Yp bk) (Ov bk) hi e2) (tZ hS Yp Ov hi he h)
   .
    rename_i g2 e2;left
    . symm
    .
     rename_i x g3 e3;left
     .
      rename_i acc e4;left
      . rename_i hl;exact .take e1 (λbk=>tY hS (Yp bk) (Ov bk) hi e2) (λbk=>aP hS (Yp bk) (Ov bk) he e3) e4 hl (tZ hS Yp Ov hi he h)
      . symm
     . symm
end
structure Yq(P:Pg)(rn:Rn):Prop where
structure Mx(P:Pg)(fi:Fi)(fx:Fx):Prop where
 np:fx.np=fi.ps.length
 n:fx.n=fi.N.length
 body:Ho P ⟨fi.N,aZ fi.st,true,fi.qual⟩ (cA fi.st) fx.body
def pO(P:Pg)(fns:List Fx):Prop:=∀(f:Nat) (fi:Fi) (fx:Fx),P.fn[f]?=some fi->fns[f]?=some fx->Mx P fi fx
theorem wz{P:Pg}{k:Nat}{prog:Program}{w:World}{K:Frag}{mg:Str->Option Value}{base:Heap}{N ps:List Str}{qual:Str}{scope:Scope}{f:Addr}{gg:Value}{A:Around}{outer:List Env}{s:Shared}{H:Hp}{E:XK}
  (S:fW N ps scope) (md:CJ P K mg) (eF:PySem.W.codeIn K gg qual=true) (hr:gj k (A.deeper (envOfC qual scope s⁻¹ f gg))):bD P k (u5 Jr prog w K mg base N qual scope f gg A outer s H E).Vb ⟨N,scope,true,qual⟩:=by
 refine⟨rfl,S.nd,λx e=>e,λx e=>e,λx e=>e,λ_ x e=>e,λx _=>rfl,λ_=>?_,rfl,rfl,md,hr,λe h=>⟨by have e:qual = "law" :=e;subst e;rfl,md.lam h _ (by have e:qual = "law" :=e;exact e▸eF)⟩⟩
 show (if scope.kind.isAnnotationScope then ScopeKind.function else scope.kind)=.function
 rw[S.kind];rfl
section
theorem Hs(hS:mS P rn){k':Nat}(ct:bD P (k'+1) X c)(hK:z.K=X.K){f:Nat}{fi:Fi}{fx:Fx}(Ss:P.fn[f]?=some fi)(DT:Mx P fi fx)(O1:c.sc.names.lookup fi.name=some .globalImplicit){e:Expr}{es:List Expr}{xs:List Ex}{rs:List R}{g g1 gO:G}{r:R}
  (hc:CQ P c (e::es) xs) (ha:cZ X z (e::es) g rs g1) (h:bG rn fx k' rs g1=some (r,gO)):aA X z (.Call (.Name fi.name p) (e::es) [] pos) g r gO:=by
 obtain⟨f,fd,hm,hF,hSc,hB,Am⟩:=ct.md.fn _ fi Ss;have F:qq X.prog X.w X.K X.mg X.base Jr (k'+1) f fd fi.ps (RJ X.K fi.N fi.ps.length λbor g r g'=>rn.b bor k' fx.body g=some (.rt r,g')\/(rn.b bor k' fx.body g=some (.nx,g')/\r=.dat .non)):=by
  refine Om hF hSc λgg A outer s H E eF hr z' g r g' hK' hrun=>?_
  have Yr:bD P k' (u5 Jr X.prog X.w X.K X.mg X.base fi.N fi.qual (aZ fi.st) f gg A outer s H E).Vb ⟨fi.N,aZ fi.st,true,fi.qual⟩:=wz hSc ct.md eF hr;rcases hrun with h |⟨h,rfl⟩
  . exact⟨_,hS.b Yr rfl hK' DT.body h,.inl rfl⟩
  . exact⟨_,hS.b Yr rfl hK' DT.body h,.inr ⟨rfl,rfl⟩⟩
 have h1:∃h2:CQ P c es xs.tail,starEach (e::es) X.env=(false,eval e X.env)::starEach es X.env:=by
  cases hc with
  |cons h1 h2=>exact⟨h2,h1.star _⟩
 obtain⟨h2,eG⟩:=h1;unfold bG at h;left
 .
  rename_i hl;left
  . symm
  .
   rename_i gs e1;left
   .
    rename_i r0 gc e2;left
    .
     rename_i gO' e3;left
     . rename_i r' e4;symm;exact zD F hK ct.room (ct.qm _ O1) hm hF.kp hB ha (by rw[hl.1,DT.np]) e1 hl.2 (.inl (by rw[<- DT.n];exact e2)) e3 e4 Am eG h2.plain
     . symm
    . symm
   .
    rename_i gc e2;left
    . rename_i gO' e3;symm;exact zD F hK ct.room (ct.qm _ O1) hm hF.kp hB ha (by rw[hl.1,DT.np]) e1 hl.2 (.inr ⟨by rw[<- DT.n];exact e2,rfl⟩) e3 rfl Am eG h2.plain
    . symm
   . symm
 . symm
theorem wA(hS:mS P rn)(ct:bD P k X c)(hK:z.K=X.K)
  (hnd:N'.Nodup) (hT:xC ⟨N',scope,false,Str.empty⟩ tg T) (qK:∀i∈T.ix,c.N.length<=i/\i<c.N.length+kk) (hi:Tf P c iter it) (hf:yI P ⟨N',scope,false,Str.empty⟩ ifs co) (he:Cm P ⟨N',scope,false,Str.empty⟩ cO xe)
  (h:eV rn z.bor k c.N.length kk T it co xe g=some (acc,g')) :
  ∃aj g1 gE,dJ X z tg iter g aj g1/\(∀b:Bk,gQ (X.blk N' scope b) z tg T)/\(∀i∈T.ix,g1.length<=i/\i<g1.length+kk)/\
   jj T (g1.length+kk) (λg b g'=>∀bk:Bk,dG (X.blk N' scope bk) z ifs g b g') (λg d g'=>∀bk:Bk,aA (X.blk N' scope bk) z cO g (.dat d) g') aj (gC kk g1) gE/\gE[g1.length+kk]?=some (.own acc)/\g'=gE.take g1.length:=by
 unfold eV at h;left
 . symm
 .
  rename_i aj g1 e1;left
  .
   rename_i hl;left
   . symm
   .
    rename_i gE e2;left
    .
     rename_i acc' e3;symm;obtain⟨hl,hb⟩:=hl;rw[<- hl]at e2 e3 qK ⊢
     refine⟨aj,g1,gE,pN hS ct hK (wu hT) hi e1,λb=>rK (ct.blk hnd b) hK hT λi hi hm=>?_,qK,tZ hS (λb=>ct.blk hnd b) (λb=>hK) hf he e2,e3,rfl⟩
     rw[List.any_eq_false]at hb;exact hb i hi (l7 hm)
    . symm
  . symm
theorem Ht(hS:mS P rn)(ct:bD P k X c)(hK:z.K=X.K){vx:Expr}{O5:List Expr}{scope:Scope}{N':List Str}{T:Tg}{xv:Ex}{ks:List Ex}{kk:Nat}{kp:Pos}(hnd:N'.Nodup)
  (hk:CQ P ⟨N',scope,false,Str.empty⟩ O5 ks) (hv:Cm P ⟨N',scope,false,Str.empty⟩ vx xv):∀{aj:List D}{ka: ~~~5}{da:List D}{g gE:G}{p: ~~~5×List D},Sx rn z.bor k T ks xv aj ka da g=some (p,gE)->
  tQ T (λg ns g'=>∀bk:Bk,yw (X.blk N' scope bk) z (.Tuple O5 kk kp) g ns g') (λg d g'=>∀bk:Bk,aA (X.blk N' scope bk) z vx g (.dat d) g') aj ka da g p.1 p.2 gE
 | [],_,_,_,_,_,h=>by symm;exact .nil
 |d::l,ka,_,_,_,_,h=>by
  unfold Sx at h;left
  . symm
  .
   rename_i g1 e0;left
   . symm
   .
    rename_i m g2 e1;left
    . symm
    .
     rename_i ns e2;left
     . symm
     .
      rename_i x g3 e3;left
      .
       rename_i hc;obtain⟨h1,h2,h3⟩:=hc;have h1:=aq h1;refine .cons e0 (λbk=>Sj (iP hS (ct.blk hnd bk) hK hk e1) (kF _) e2 h3) (λbk=>aP hS (ct.blk hnd bk) hK hv e3) (λhm=>?_) h2 (aq h1.2).1 (aq h1.2).2 (Ht hS ct hK hnd hk hv h)
       have:=eM.mp h1.1 ns hm;simp at this
      . symm
theorem CV(hS:mS P rn)(ct:bD P k X c)(hK:z.K=X.K){tg iter vx:Expr}{O5:List Expr}{scope:Scope}{N':List Str}{kk kt:Nat}{kp:Pos}{T:Tg}{it xv:Ex}{ks:List Ex}{g g':G}{p: ~~~5×List D}
  (hnd:N'.Nodup) (hT:xC ⟨N',scope,false,Str.empty⟩ tg T) (qK:∀i∈T.ix,c.N.length<=i/\i<c.N.length+kk) (hi:Tf P c iter it) (hk:CQ P ⟨N',scope,false,Str.empty⟩ O5 ks) (hv:Cm P ⟨N',scope,false,Str.empty⟩ vx xv)
  (h:pC rn z.bor k c.N.length kk T it ks xv g=some (p,g')) :
  ∃aj g1 gE,dJ X z tg iter g aj g1/\(∀b:Bk,gQ (X.blk N' scope b) z tg T)/\(∀i∈T.ix,g1.length<=i/\i<g1.length+kk)/\
   tQ T (λg ns g'=>∀bk:Bk,yw (X.blk N' scope bk) z (.Tuple O5 kt kp) g ns g') (λg d g'=>∀bk:Bk,aA (X.blk N' scope bk) z vx g (.dat d) g') aj [] [] (gD kk g1) p.1 p.2 gE/\g'=gE.take g1.length:=by
 unfold pC at h;left
 . symm
 .
  rename_i aj g1 e1;left
  .
   rename_i hl;left
   . symm
   .
    rename_i q gE e2;symm;obtain⟨hl,hb⟩:=hl;rw[<- hl]at qK ⊢
    refine⟨aj,g1,gE,pN hS ct hK (wu hT) hi e1,λb=>rK (ct.blk hnd b) hK hT λi hi hm=>?_,qK,Ht hS ct hK hnd hk hv e2,rfl⟩
    rw[List.any_eq_false]at hb;exact hb i hi (l7 hm)
  . symm
theorem uc(hS:mS P rn)(ct:bD P k X c)(hK:z.K=X.K)(hnd:N'.Nodup)(hT:xC ⟨N',scope,false,Str.empty⟩ tg T)(hf1:yI P ⟨N',scope,false,Str.empty⟩ f1 c1)
  (hi:Tf P ⟨N',scope,false,Str.empty⟩ iter it) (hf:yI P ⟨N',scope,false,Str.empty⟩ ifs co) (he:Cm P ⟨N',scope,false,Str.empty⟩ cO xe):∀{aj:List D}{g gE:G},v5 rn z.bor k T1 c1 T it co xe last aj g=some gE->
  ie T1 (λg b g'=>∀bk:Bk,dG (X.blk N' scope bk) z f1 g b g') (yt X z N' scope tg iter cO ifs T last) aj g gE
 | [],_,_,h=>by symm;exact .nil
 |d::l,_,_,h=>by
  unfold v5 at h;left
  . symm
  .
   rename_i g1 e1;left
   . symm
   . rename_i g2 e2;exact .skip e1 (λbk=>tY hS (ct.blk hnd bk) hK hf1 e2) (uc hS ct hK hnd hT hf1 hi hf he h)
   .
    rename_i g2 e2;left
    . symm
    .
     rename_i items2 g3 e3;left
     . symm
     . rename_i g4 e4;exact .take e1 (λbk=>tY hS (ct.blk hnd bk) hK hf1 e2) ⟨items2,g3,λbk=>pN hS (ct.blk hnd bk) hK (wu hT) hi e3,tZ hS (λb=>ct.blk hnd b) (λb=>hK) hf he e4⟩ (uc hS ct hK hnd hT hf1 hi hf he h)
theorem rL(hS:mS P rn)(ct:bD P k X c)(hK:z.K=X.K)
  (hnd:N'.Nodup) (hT1:xC ⟨N',scope,false,Str.empty⟩ t1 T1) (hT:xC ⟨N',scope,false,Str.empty⟩ tg T) (Ys:∀i∈T1.ix,c.N.length<=i/\i<c.N.length+kk) (qK:∀i∈T.ix,c.N.length<=i/\i<c.N.length+kk) (hi1:Tf P c i1 ki) (hf1:yI P ⟨N',scope,false,Str.empty⟩ f1 c1) (hi:Tf P ⟨N',scope,false,Str.empty⟩ iter it) (hf:yI P ⟨N',scope,false,Str.empty⟩ ifs co) (he:Cm P ⟨N',scope,false,Str.empty⟩ cO xe)
  (h:jK rn z.bor k c.N.length kk T1 ki c1 T it co xe g=some (acc,g')) :
  ∃aj g1 gE,dJ X z t1 i1 g aj g1/\(∀b:Bk,gQ (X.blk N' scope b) z t1 T1)/\(∀b:Bk,gQ (X.blk N' scope b) z tg T)/\(∀i∈T1.ix,g1.length<=i/\i<g1.length+kk)/\(∀i∈T.ix,g1.length<=i/\i<g1.length+kk)/\
   ie T1 (λg b g'=>∀bk:Bk,dG (X.blk N' scope bk) z f1 g b g') (yt X z N' scope tg iter cO ifs T (g1.length+kk)) aj (gC kk g1) gE/\gE[g1.length+kk]?=some (.own acc)/\g'=gE.take g1.length:=by
 unfold jK at h;left
 . symm
 .
  rename_i aj g1 e1;left
  .
   rename_i hl;left
   . symm
   .
    rename_i gE e2;left
    .
     rename_i acc' e3;symm;obtain⟨hl,hb⟩:=hl;rw[<- hl]at e2 e3 qK Ys ⊢
     rw[List.any_eq_false]at hb;exact⟨aj,g1,gE,pN hS ct hK (wu hT1) hi1 e1,λb=>rK (ct.blk hnd b) hK hT1 λi hi hm=>hb i (u4 _ hi) (l7 hm),λb=>rK (ct.blk hnd b) hK hT λi hi hm=>hb i (i7 _ hi) (l7 hm),Ys,qK,uc hS ct hK hnd hT hf1 hi hf he e2,e3,rfl⟩
    . symm
  . symm
end
section
variable{X:Cx}{c:Ct}
theorem Tv(ct:bD P k X c){es:List Expr}{ns:List String}(h:Hf P c es ns):zE X es ns/\∀n∈ns,n∈v7:=by
 induction h with
 |nil=>exact⟨.nil,λn hn=>nomatch hn⟩
 |@cons T n pos es ns h1 h2 h3 h4 _ ih=>
  refine⟨.cons ?_ ih.1,λm hm=>(d6.mp hm).elim (λe=>e▸h4) (ih.2 m)⟩
  subst h3;refine⟨ct.qm _ h2,ct.md.bn _ h1,?_,?_,?_⟩ <;> (unfold v7 at h4;simp only[d6,kS,yB]at h4;rcases h4 with rfl |rfl |rfl |rfl |rfl |rfl <;> first |rfl |decide)
theorem Hu{e:Expr}{g g1:G}{r:R}{d:D}(h:aA X z e g r g1)(hp:pk r g1=some d)(hs:starEach [e] X.env=(false,eval e X.env)::starEach [] X.env):cZ X z [e] g [r] g1:=by
 cases r with
 |dat d=>exact cI h dO hs
 |new l=>cases hp
 |var i=>exact Ff h dO hs
theorem ud{e:Expr}{x:Ex}{bQ:Pos}(hc:Cm P c e x):((backTo bQ (starEach [e] X.env)).all (λx=>!x.1)&&(backToKw bQ (keywordEach [] X.env)).all (λx=>x.1.isSome)
   && decide ([e].length+([]:List Keyword).length+(if ([]:List Keyword).isEmpty then 0 else 1)<30))=true:=by
 rw[hc.star];rfl
theorem Cm.attr{e:Expr}{x:Ex}{env:Env}(h:Cm P c e x)(m:Str):attributeBase e m env (eval e env)=eval e env:=by cases h.out <;> rfl
def Yt(X:Cx)(z:Z)(e:Expr)(g:G)(o:Option (R×G)):Prop:=∀r g',o=some (r,g')->aA X z e g r g'
theorem Yt.none{e:Expr}{g:G}:Yt X z e g none:=λ_ _ h=>nomatch h
theorem Yt.some{e:Expr}{g g':G}{r:R}(h:aA X z e g r g'):Yt X z e g (some (r,g')):=λ_ _ q=>by cases q;exact h
theorem My(hS:mS P rn)(hX:Yq P rn){fns:List Fx}(hF:pO P fns)(ct:bD P k X c)(hK:z.K=X.K){e:Expr}{x:Ex}{g:G}(hc:Cm P c e x):Yt X z e g (bw rn z.bor k fns x g):=by
 cases hc.out with
 |int=>exact .some (QJ)
 |bool=>exact .some (W8)
 |none=>exact .some (QK)
 |str=>exact .some (QL)
 |var h1 h2 h3=>
  obtain⟨hd,eF⟩:=bZ h3;unfold bw;dsimp only;split
  . rename_i e1;exact .some (QM (by rw[ct.N];exact h1) (ct.vis h2) hd eF e1)
  . rename_i e1;exact .some (Ku (by rw[ct.N];exact h1) (ct.vis h2) hd eF e1)
  . exact .none
 |glob h1 h2=>obtain⟨hd,v,u,q1,q2,q3⟩:=ct.md.ct _ _ h1;exact .some (Kv (ct.qm _ h2) q1 q2 (hK▸q3) hd)
 |bin h1 h2=>
  unfold bw;dsimp only;split
  .
   rename_i r1 r2 g2 e1;obtain⟨s1,s2,g1,q1,q2,q3⟩:=jf e1;cases q3;split
   .
    rename_i d1 d2 p1 p2;split
    . rename_i r0 e3;exact .some (QS (bU (hS.e ct hK h1 q1)) (bU (hS.e ct hK h2 q2)) p1 p2 (SM hK e3))
    . exact .none
   . exact .none
  . exact .none
 |cmp h1 h2 h3=>
  unfold bw;dsimp only;split
  .
   rename_i r1 r2 g2 e1;obtain⟨s1,s2,g1,q1,q2,q3⟩:=jf e1;cases q3;split
   .
    rename_i d1 d2 p1 p2;split
    . rename_i r0 e3;exact .some (QT (bU (hS.e ct hK h1 q1)) (bU (hS.e ct hK h2 q2)) p1 p2 (pF hK ct.room e3) h3)
    . exact .none
   . exact .none
  . exact .none
 |chain h1 h2 h3=>
  unfold bw;dsimp only;split
  .
   rename_i d1 g1 e1;split
   . rename_i b g2 e2;exact .some (FT (aP hS ct hK h1 e1) (yJ hS ct hK h2 e2) h3)
   . exact .none
  . exact .none
 |neg h1=>
  unfold bw;dsimp only;split
  . rename_i i g1 e1;exact .some (Xa (aP hS ct hK h1 e1) rfl Rm)
  . exact .none
 |not h1=>
  unfold bw;dsimp only;split
  . rename_i b g1 e1;exact .some (Q8 (hS.e ct hK h1 e1))
  . exact .none
 |and h1=>exact λ_ _ h=>zS hS ct hK h1 h
 |or h1=>exact λ_ _ h=>Hr hS ct hK h1 h
 |ite h1 h2 h3=>
  unfold bw;dsimp only;split
  . rename_i g1 e1;exact λ_ _ h=>Q9 (hS.t ct hK h1 e1) (hS.e ct hK h2 h)
  . rename_i g1 e1;exact λ_ _ h=>Ra (hS.t ct hK h1 e1) (hS.e ct hK h3 h)
  . exact .none
 |tup h1=>
  unfold bw;dsimp only;split
  .
   rename_i ds g1 e1;split
   . rename_i hl;exact .some (Rb (iP hS ct hK h1 e1) (kF _) hl)
   . exact .none
  . exact .none
 |lst h1=>
  unfold bw;dsimp only;split
  .
   rename_i ds g1 e1;split
   . rename_i hl;exact .some (Rc (iP hS ct hK h1 e1) (kF _) hl)
   . exact .none
  . exact .none
 |ix h1 h2=>
  unfold bw;dsimp only;split
  .
   rename_i r1 r2 g2 e1;obtain⟨s1,s2,g1,q1,q2,q3⟩:=jf e1;cases q3;split
   .
    rename_i d1 d2 p1 p2;split
    . rename_i r0 e3;exact .some (W9 (bU (hS.e ct hK h1 q1)) (bU (hS.e ct hK h2 q2)) p1 p2 (SN hK (by have:=ct.room.units;lia) e3) h2.Mw)
    . exact .none
   . exact .none
  . exact .none
 |slice h1 h2 h3=>
  unfold bw;dsimp only;split
  .
   rename_i r0 g1 e1;have q:=bU (hS.e ct hK h1 e1);split
   .
    rename_i i g2 e2;have q2:=wj hS ct hK h2 e2;split
    .
     rename_i j g3 e3;have q3:=wj hS ct hK h3 e3;split
     . rename_i l e4;rw[e4]at q;exact .some (BK hK q q2 q3)
     . rename_i l e4;rw[e4]at q;exact .some (BJ hK q q2 q3)
     .
      split
      . rename_i e5;exact .some (BG (d:=.non) hK q q2 q3 e5)
      . exact .none
    . exact .none
   . exact .none
  . exact .none
 |call h1 h2 h3 h4=>
  subst h2;unfold bw;dsimp only;split
  .
   rename_i fx k' Yr DT;split
   . rename_i rs g1 e1;exact λ_ _ h=>Hs hS ct hK h1 (hF _ _ _ h1 DT) h3 h4 (pM hS ct hK h4 e1) h
   . exact .none
  . exact .none
 |@blt x b e es xs p pos h1 h2 h3 h4=>
  unfold bw;dsimp only;split
  .
   rename_i rs g1 e1;split
   .
    rename_i ds e2;split
    .
     rename_i r0 e3;have ha:=pM hS ct hK h4 e1;have eF:=SX hK ct.calm (by have:=ct.room.units;lia) e3
     have eG:starEach (e::es) X.env=(false,eval e X.env)::starEach es X.env:=by cases h4 with |cons h _=>exact h.star _
     have mh:(backTo pos (starEach es X.env)).any (·.1)=false:=by cases h4 with |cons _ h=>exact h.plain
     subst h1;cases b with
     |len=>exact .some (fC ha e2 eF (ct.qm _ h3) (ct.md.bn _ h2) rfl ⋯ ⋯ eG mh)
     |list=>exact .some (lg ha e2 eF (ct.qm _ h3) (ct.md.bn _ h2) rfl ⋯ ⋯ eG mh)
     |tuple=>exact .some (lg ha e2 eF (ct.qm _ h3) (ct.md.bn _ h2) rfl ⋯ ⋯ eG mh)
     |max=>exact .some (fC ha e2 eF (ct.qm _ h3) (ct.md.bn _ h2) rfl ⋯ ⋯ eG mh)
     |min=>exact .some (fC ha e2 eF (ct.qm _ h3) (ct.md.bn _ h2) rfl ⋯ ⋯ eG mh)
     |str=>exact .some (lg ha e2 eF (ct.qm _ h3) (ct.md.bn _ h2) rfl ⋯ ⋯ eG mh)
     |all=>exact .some (fC ha e2 eF (ct.qm _ h3) (ct.md.bn _ h2) rfl ⋯ ⋯ eG mh)
     |any=>exact .some (fC ha e2 eF (ct.qm _ h3) (ct.md.bn _ h2) rfl ⋯ ⋯ eG mh)
     |sorted=>exact .some (fC ha e2 eF (ct.qm _ h3) (ct.md.bn _ h2) rfl ⋯ ⋯ eG mh)
     |sum=>exact .some (fC ha e2 eF (ct.qm _ h3) (ct.md.bn _ h2) rfl ⋯ ⋯ eG mh)
    . exact .none
   . exact .none
  . exact .none
 |@pB a xa T n p pT pos h1 h2 h3 h4 h5 h6 h7=>
  unfold bw;dsimp only;split
  .
   rename_i r0 g1 e1;split
   .
    rename_i d e2;obtain⟨t1,_⟩:=Tv ct (Hf.cons (pos:=pT) h4 h5 h6 h7 .nil);cases t1 with
    |cons t1 _=>exact .some (Ru hK (bU (hS.e ct hK h1 e1)) e2 (λ_ _ _ p=>G9 p h7) (ct.qm _ h3) (ct.md.bn _ h2) rfl t1.gl t1.mg t1.bt t1.nn t1.db (h1.star _))
   . exact .none
  . exact .none
 |rev h1=>
  unfold bw;dsimp only;split
  .
   rename_i r0 g1 e1;have q:=bU (hS.e ct hK h1 e1);split
   . rename_i l e4;rw[e4]at q;exact .some (Lw hK q)
   .
    split
    . rename_i e5;exact .some (Lv hK q e5)
    . exact .none
  . exact .none
 |comp h1 h2 h3 h4 h5 h6 h7 h8=>
  unfold bw;dsimp only;split
  . rename_i acc g1 e1;obtain⟨aj,g1,gE,w1,w2,w3,w4,w5,rfl⟩:=wA hS ct hK h3 h4 h5 h6 h7 h8 e1;exact .some (La (je ct h1) ct.calm (by rw[ct.N];exact fh h2) w1 w2 w3 w4 w5 λy=>h6.folded y)
  . exact .none
 |iK h1 h2 h3 h4 h5 h6 h7 h8=>
  unfold bw;dsimp only;split
  . rename_i p g1 e1;obtain⟨aj,g1,gE,w1,w2,w3,w4,rfl⟩:=CV hS ct hK h3 h4 h5 h6 h7 h8 e1;exact .some (G4 (je ct h1) ct.calm ct.room.Qn (by rw[ct.N];exact fh h2) w1 w2 w3 w4 λy=>h6.folded y)
  . exact .none
 |cK h1 h2 h3 h4 h4' h5 h5' h6 h7 h8 h9 h10=>
  unfold bw;dsimp only;split
  . rename_i acc g1 e1;obtain⟨aj,g1,gE,w1,w2,w3,w4,w5,w6,w7,rfl⟩:=rL hS ct hK h3 h4 h4' h5 h5' h6 h7 h8 h9 h10 e1;exact .some (GQ (je ct h1) ct.calm (by rw[ct.N];exact fh h2) w1 w2 w3 w4 w5 w6 w7 (λy=>h6.folded y) λb y=>h8.folded y)
  . exact .none
 |@cT a xa lp p rp pos h1 h2 h3 h4 h5=>
  unfold bw;dsimp only;split
  .
   rename_i j g1 e1;split
   .
    rename_i hj;obtain⟨hj,hl⟩:=hj;simp only[DP,dE,dL]at hj;have q:=vB (z:=z) (lp:=lp) (pos:=pos) (rg_1 (p:=p) (rp:=rp) (cI (aP hS ct hK h1 e1) dO (h1.star _)) (ct.qm _ h3) (ct.md.bn _ h2) (h1.star _)) ct.calm (ct.qm _ h5) (ct.md.bn _ h4) rfl ⟨by lia,by lia,hj.1,hj.2⟩ (by rw[Int.sub_zero];exact hl)
    rw[Int.sub_zero]at q;exact .some (q)
   . exact .none
  . exact .none
 |fY h1 Vg h2 h3 h4 h5=>
  unfold bw;dsimp only;split
  .
   rename_i c0 g1 e1;split
   .
    rename_i j g2 e2;split
    . rename_i hj;obtain⟨hc,hj,hl⟩:=hj;simp only[DP,dE,dL]at hj hc;exact .some (vB (rg_2 (cI (aP hS ct hK h1 e1) (cI (aP hS ct hK Vg e2) dO (Vg.star _)) (h1.star _)) (ct.qm _ h3) (ct.md.bn _ h2) (by rw[h1.star,Vg.star];rfl) (Vg.star _)) ct.calm (ct.qm _ h5) (ct.md.bn _ h4) rfl ⟨hc.1,hc.2,hj.1,hj.2⟩ hl)
    . exact .none
   . exact .none
  . exact .none
 |gR h1 h2 h3=>
  unfold bw;dsimp only;split
  .
   rename_i r0 g1 e1;split
   .
    rename_i d e2;split
    .
     rename_i l e3;split
     .
      rename_i ns e4;split
      . rename_i hl;exact .some (yf hK (Hu (bU (hS.e ct hK h1 e1)) e2 (h1.star _)) e2 e3 e4 hl (ct.qm _ h3) (ct.md.bn _ h2) (h1.star _))
      . exact .none
     . exact .none
    . exact .none
   . exact .none
  . exact .none
 |meth h1 h2 h3 h4=>
  subst h3;unfold bw;dsimp only;split
  .
   rename_i r0 g1 e1;split
   .
    rename_i d e2;split
    .
     rename_i l e3;split
     .
      rename_i r1 g2 e4;split
      .
       rename_i d0 d1 p0 p1;split
       . rename_i x e5;obtain⟨q1,q2,q3⟩:=L7 e3 (L8 (m:=_) e2 p0);exact .some (Lq hK q1 q2 q3 (bU (hS.e ct hK h1 e1)) e2 e3 (Hu (bU (hS.e ct hK h2 e4)) p1 (h2.star _)) p0 p1 (S3 hK ct.room e5) (h1.attr _) (ud h2) h4 (h2.star _))
       . exact .none
      . exact .none
     . exact .none
    . exact .none
   . exact .none
  . exact .none
 |append h1 h2 h3 h4 h5=>
  obtain⟨hd,eF⟩:=bZ h3;unfold bw;dsimp only;split
  .
   rename_i l0 e0;split
   .
    rename_i d g1 e1;split
    .
     rename_i l e2;split
     . rename_i hl;exact .some (Bt (by rw[ct.N];exact h1) (ct.vis h2) hd eF e0 (cI (aP hS ct hK h4 e1) dO (h4.star _)) e2 hl rfl (ud h4) h5 (h4.star _))
     . exact .none
    . exact .none
   . exact .none
  . exact .none
 |extend h1 h2 h3 h4 h5=>
  obtain⟨hd,eF⟩:=bZ h3;unfold bw;dsimp only;split
  .
   rename_i l0 e0;split
   .
    rename_i d g1 e1;split
    .
     rename_i l e2;split
     . rename_i hl;exact .some (BL (by rw[ct.N];exact h1) (ct.vis h2) hd eF e0 (cI (aP hS ct hK h4 e1) dO (h4.star _)) e2 hl rfl (ud h4) h5 (h4.star _))
     . exact .none
    . exact .none
   . exact .none
  . exact .none
 |ig h1 h2 h3 h4 h5=>
  obtain⟨hd,eF⟩:=bZ h3;unfold bw;dsimp only;split
  .
   rename_i l0 e0;split
   .
    rename_i j g1 e1;split
    .
     rename_i l e2;split
     .
      rename_i n e3;split
      .
       rename_i d e4;split
       . rename_i hl;exact .some (FH (by rw[ct.N];exact h1) (ct.vis h2) hd eF e0 (cI (aP hS ct hK h4 e1) dO (h4.star _)) e2 e3 e4 hl rfl (ud h4) h5 (h4.star _))
       . exact .none
      . exact .none
     . exact .none
    . exact .none
   . exact .none
  . exact .none
theorem Hv(hS:mS P rn)(hX:Yq P rn){fns:List Fx}(hF:pO P fns)(ct:bD P k X c)(hK:z.K=X.K){e:Expr}{x:Ex}{g g':G}{r:R}(hc:Cm P c e x)(h:bw rn z.bor k fns x g=some (r,g')):aA X z e g r g':=My hS hX hF ct hK hc r g' h
end
section
theorem Hw(hS:mS P rn)(ct:bD P k X c)(hK:z.K=X.K){e:Expr}{x:Ex}{g g':G}{b:Bool}(hc:Cm P c e x)(h:stepT rn z.bor k x g=some (b,g')):dI X z e g b g':=by
 have plain:(match rn.e z.bor k x g with |some (r,g1)=>(match pk (norm r) g1 with |some d=>(match Lf d with |some c=>some (c,g1) |none=>none) |none=>none) |none=>none)=some (b,g')->
   (∀whole,isTrue e X.env whole=(do let v <- whole;standAt e.pos;holding [v] (truthy v)))->dI X z e g b g':=by
  intro h he;left
  .
   rename_i r g1 e1;left
   .
    rename_i d e2;left
    . rename_i b' e3;symm;exact Ga hK (bU (hS.e ct hK hc e1)) e2 e3 he
    . symm
   . symm
  . symm
 cases hc.out with
 |int=>exact plain h λ_=>rfl
 |bool=>exact plain h λ_=>rfl
 |none=>exact plain h λ_=>rfl
 |str=>exact plain h λ_=>rfl
 |var h1 h2 h3=>exact plain h λ_=>rfl
 |glob h1 h2=>exact plain h λ_=>rfl
 |bin h1 h2=>exact plain h λ_=>rfl
 |cmp h1 h2 h3=>
  unfold stepT at h;dsimp only at h;left
  .
   rename_i r1 r2 g2 e1;obtain⟨s1,s2,g1,q1,q2,q3⟩:=jf e1;cases q3;left
   .
    rename_i d1 d2 p1 p2;left
    . rename_i r0 e3;symm;exact QV (bU (hS.e ct hK h1 q1)) (bU (hS.e ct hK h2 q2)) p1 p2 (pF hK ct.room e3) h3
    . symm
   . symm
  . symm
 |chain h1 h2 h3=>
  unfold stepT at h;dsimp only at h;left
  . rename_i d1 g1 e1;exact FW (aP hS ct hK h1 e1) (yJ hS ct hK h2 h) h3
  . symm
 |neg h1=>exact plain h λ_=>rfl
 |not h1=>
  unfold stepT at h;dsimp only at h;left
  . rename_i b' g1 e1;symm;exact QW (hS.t ct hK h1 e1)
  . symm
 |and h1=>exact (wg hS ct hK h1 h).tr
 |or h1=>exact (zT hS ct hK h1 h).tr
 |ite h1 h2 h3=>symm
 |tup h1=>exact plain h λ_=>rfl
 |lst h1=>exact plain h λ_=>rfl
 |ix h1 h2=>exact plain h λ_=>rfl
 |slice h1 h2 h3=>exact plain h λ_=>rfl
 |call h1 h2 h3 h4=>exact plain h λ_=>rfl
 |blt h1 h2 h3 h4=>exact plain h λ_=>rfl
 |pB h1 h2 h3 h4 h5 h6 h7=>exact plain h λ_=>rfl
 |rev h1=>exact plain h λ_=>rfl
 |cK h1 h2 h3 h4 h5 h6 h7 h8 h9 h10 h11 h12=>exact plain h λ_=>rfl
 |comp h1 h2 h3 h4 h5 h6 h7 h8=>exact plain h λ_=>rfl
 |iK h1 h2 h3 h4 h5 h6 h7 h8=>exact plain h λ_=>rfl
 |cT h1 h2 h3 h4 h5=>exact plain h λ_=>rfl
 |fY h1 Vg h2 h3 h4 h5=>exact plain h λ_=>rfl
 |gR h1 h2 h3=>exact plain h λ_=>rfl
 |meth h1 h2 h3 h4=>exact plain h λ_=>rfl
 |append h1 h2 h3 h4 h5=>exact plain h λ_=>rfl
 |extend h1 h2 h3 h4 h5=>exact plain h λ_=>rfl
 |ig h1 h2 h3 h4 h5=>exact plain h λ_=>rfl
theorem uf(ct:bD P k X c):PassesOwn (~~~2) X.A X.env X.xe:=by rw[ct.xe];exact PassesOwn.never
theorem pP{T:Tg}{body:List Stmt}{b:G->Option (Fl×G)}(hb:∀{g g':G}{f:Fl},b g=some (f,g')->fD X z body g f g'):∀{aj:List D}{g g':G}{f:Fl},dj T b aj g=some (f,g')->fE X z body T aj g f g'
 | [],_,_,_,h=>by symm;exact .nil
 |d::l,_,_,_,h=>by
  unfold dj at h;left
  . symm
  .
   rename_i g0 e0;left
   . symm
   . rename_i g1 e1;exact .next e0 (hb e1) (pP hb h)
   . rename_i g1 e1;exact .cont e0 (hb e1) (pP hb h)
   . rename_i g1 e1;symm;exact .brk e0 (hb e1)
   . rename_i g1 e1;symm;exact .ret e0 (hb e1)
theorem yK{ce:Expr}{body:List Stmt}{t:G->Option (Bool×G)}{b:G->Option (Fl×G)}(ht:∀{g g':G}{v:Bool},t g=some (v,g')->dI X z ce g v g')(hb:∀{g g':G}{f:Fl},b g=some (f,g')->fD X z body g f g') :
  ∀{n:Nat}{g g':G}{f:Fl},xB t b n g=some (f,g')->nD X z ce body n g f g'
 | 0,_,_,_,h=>by symm
 |n+1,_,_,_,h=>by
  unfold xB at h;left
  . symm
  . rename_i g1 e1;symm;exact .done (ht e1)
  .
   rename_i g1 e1;left
   . symm
   . rename_i g2 e2;exact .next (ht e1) (hb e2) (yK ht hb h)
   . rename_i g2 e2;exact .cont (ht e1) (hb e2) (yK ht hb h)
   . rename_i g2 e2;symm;exact .brk (ht e1) (hb e2)
   . rename_i g2 e2;symm;exact .ret (ht e1) (hb e2)
theorem kG{P:Pg}{c:Ct}{e:Expr}{x:Ex}(h:Cm P c e x)(hn:kC (λ_ _=>true) e=false)(t:Option Expr)(l:Nat)(env:Env):swapsWith e t l env=pure false:=by have hs:=h.CT;cases e <;> first |rfl |exact Bool.noConfusion (show true=false from hn) |exact Bool.noConfusion (show false=true from hs)
theorem kH(ct:bD P k X c)(mj:c.df=true){a:Expr}{b:List Comprehension}{s:Scope}{p py:Pos}{y:Str}{l:Nat}(hl:fG c y=true):swapsWith (.ListComp a b s p) (some (.Name y py)) l X.env=pure (DQ c y py p s):=by
 show (pure (X.env.blockKind==.function&&X.env.kindOf y==some .local&&py.line==(Expr.ListComp a b s p).pos.line&&!(s.names.any λ(n,k)=>n==y&&(k==.local||k==.cell))):Sem Bool)=_
 rw[ct.bk mj];have e:(X.env.kindOf y==some .local)=(c.sc.names.lookup y==some .local):=by
  unfold fG at hl;split at hl
  . rename_i e;rw[e];show (X.env.scope.names.lookup y==_)=_;rw[ct.Vu y e]
  . rename_i e;rw[e];show (X.env.scope.names.lookup y==_)=_;rw[ct.cel mj y e]
  . cases hl
 rw[e];rfl
theorem CW(ct:bD P k X c)(mj:c.df=true){e:Expr}{x:Ex}{y:Str}{py:Pos}{l:Nat}(hl:fG c y=true)(h:Cm P c e x)(hn:kC (λs p=>DQ c y py p s) e=false):swapsWith e (some (.Name y py)) l X.env=pure false:=by have hs:=h.CT;cases e <;> first |rfl |exact Bool.noConfusion (show true=false from hn) |exact Bool.noConfusion (show false=true from hs) | (rw[kH ct mj hl];exact congrArg pure hn)
theorem Hx{e:Expr}{xe:Ex}{x y:Str}{ix iy:Expr}{pn Gu bY iH pt:Pos}{kt:Nat}{env:Env}(h:Cm P c e xe):swappedStores [.Tuple [.Subscript (.Name x pn) ix bY,.Subscript (.Name y Gu) iy iH] kt pt] e env=pure none:=by
 have hs:=h.CT;cases e with
 |Tuple es k p=>
  show (if _ then _ else _:Sem (Option (List Str)))=_
  split
  . rfl
  .
   split
   . rfl
   . exact fN rfl
 |_=>first |rfl |exact Bool.noConfusion (show false=true from hs)
theorem yL{x:Str}{pn bY:Pos}{ix:Expr}{xi:Ex}{X:Cx}(h:Cm P c ix xi):∀v,assign (.Subscript (.Name x pn) ix bY) X.env v=(do
   let ov <- holding [v] (eval (.Name x pn) X.env)
   let iv <- holding [v,ov] (eval ix X.env)
   standAt bY
   holding [v,ov,iv] (setItem ov iv v)
   release [v,ov,iv] []):=by
 have hs:=h.CT;cases ix <;> first |exact λ_=>rfl |exact Bool.noConfusion (show false=true from hs)
theorem Tw{es:List Expr}{k0:Nat}{pt:Pos}{e:Expr}{x:Ex}{env:Env}(h:Cm P c e x)(hn:∀vs k p,e≠.Tuple vs k p):swappedStores [.Tuple es k0 pt] e env=pure none:=by have hs:=h.CT;cases e <;> first |rfl |exact absurd rfl (hn _ _ _) |exact Bool.noConfusion (show false=true from hs)
theorem wB{α β:Type}{f:α->Option β}:∀{l:List α}{a:α},a∈l->f a=none->(l.filterMap f).length<l.length
 |b::l,a,h,e=>by
  have hle:=List.length_filterMap_le f l;rcases d6.mp h with rfl |h
  . rw[List.filterMap_cons_none e,i5];exact Nat.lt_succ_of_le hle
  .
   have:=wB h e;rw[i5,Ap];split
   . exact Nat.lt_succ_of_le hle
   . rw[i5];exact Nat.succ_lt_succ this
theorem Tz{es:List Expr}{k0:Nat}{pt:Pos}{e:Expr}(ct:bD P k X c)(h:Ma c es e=true):swappedStores [.Tuple es k0 pt] e X.env=pure none:=by
 obtain⟨h1,h2⟩:=aq h;obtain⟨h3,h4⟩:=aq h2;obtain⟨a,ha,h5⟩:=BD.mp h4;unfold X8 at h5;split at h5
 .
  rename_i x ex;obtain⟨px,rfl⟩:∃p,a=.Name x p:=by cases a <;> first | (cases ex;exact⟨_,rfl⟩) |cases ex
  have hx:X.env.kindOf x=some .cell:=ct.cel h3 x (l9 h5);obtain⟨vs,k2,pt2,rfl⟩:∃vs k p,e=.Tuple vs k p:=by cases e <;> first |exact⟨_,_,_,rfl⟩ |cases h1
  show (if _ then _ else _:Sem (Option (List Str)))=_
  split
  . rfl
  .
   show (if _ then _ else _:Sem (Option (List Str)))=_
   split
   . rfl
   .
    show (if _ then _ else _:Sem (Option (List Str)))=_
    rw[fN];rw[sK];refine .inl ?_;rw[bne_iff_ne];refine l4 (wB ha ?_);simp only[hx];rfl
 . cases h5
theorem TF{es:List Expr}{k0:Nat}{pt:Pos}{e:Expr}{x:Ex}(ct:bD P k X c)(h:Cm P c e x)(hn:(∀vs k p,e≠.Tuple vs k p)\/Ma c es e=true):swappedStores [.Tuple es k0 pt] e X.env=pure none:=
 hn.elim (Tw h) (Tz ct)
theorem TJ{y:Str}{pn bY:Pos}{ix e:Expr}{x:Ex}{env:Env}(h:Cm P c e x):swappedStores [.Subscript (.Name y pn) ix bY] e env=pure none:=by have hs:=h.CT;cases e <;> first |rfl |exact Bool.noConfusion (show false=true from hs)
theorem wC(hS:mS P rn)(ct:bD P k X c)(mj:c.df=true)(hK:z.K=X.K){s:Stmt}{x:Sm}{g g':G}{f:Fl}(hc:JC P c s x)(h:aK rn z.bor k x g=some (f,g')):iu X z s g f g':=by
 cases hc.out with
 |ret h1=>
  unfold aK at h;dsimp only at h;left
  . rename_i r g1 e1;symm;exact RB (hS.e ct hK h1 e1)
  . symm
 |expr h1 h2=>
  unfold aK at h;dsimp only at h;left
  . rename_i r g1 e1;symm;exact KZ (hS.e ct hK h1 e1) (kG h1 h2 _ _ _)
  . symm
 |@set y i e x py pos h1 h2 h3 h4=>
  have nm:=ct.nm h1 h2;have hsw:swapsWith e (some (.Name y py)) pos.line X.env=pure false:=CW ct mj h2 h3 h4;unfold aK at h;dsimp only at h;left
  . symm
  .
   rename_i hb;left
   .
    rename_i l g1 e1;left
    . rename_i hl;symm;exact K3 nm.nd nm.ix nm.lc (hS.e ct hK h3 e1) hl hsw nm.fn hb
    . symm
   .
    rename_i r g1 _ e1;left
    . rename_i d g2 e2;symm;exact K1 nm.nd nm.ix nm.lc (Hq (hS.e ct hK h3 e1) e2) hsw nm.fn hb
    . symm
   . symm
 |@setC y i a b s p n kk T it co x py pos h1 h2 h3=>
  have hl:c.sc.names.lookup y=some .local:=by unfold DQ at h2;simp only[dE]at h2;exact eq_of_beq h2.1.1
  have eG:fG c y=true:=by unfold fG;rw[hl]
  have nm:=ct.nm h1 eG;unfold aK at h;dsimp only at h;left
  . symm
  .
   rename_i hb;left
   .
    rename_i acc g1 e1;left
    .
     rename_i hi;symm;cases h3.out with
     |comp k1 k2 k3 k4 k5 k6 k7 k8=>obtain⟨aj,g1,gE,w1,w2,w3,w4,w5,rfl⟩:=wA hS ct hK k3 k4 k5 k6 k7 k8 e1;exact Lb (je ct k1) ct.calm (by rw[ct.N];exact fh k2) w1 w2 w3 w4 w5 nm.nd nm.ix (ct.Vu _ hl) hb hi (by rw[kH ct mj eG,h2]) λy=>k6.folded y
    . symm
   . symm
 |@O6 y i a b s p n kk T1 T ki it c1 co x py pos h1 h2 h3=>
  have hl:c.sc.names.lookup y=some .local:=by unfold DQ at h2;simp only[dE]at h2;exact eq_of_beq h2.1.1
  have eG:fG c y=true:=by unfold fG;rw[hl]
  have nm:=ct.nm h1 eG;unfold aK at h;dsimp only at h;left
  . symm
  .
   rename_i hb;left
   .
    rename_i acc g1 e1;left
    .
     rename_i hi;symm;cases h3.out with
     |cK k1 k2 k3 k4 k4' k5 k5' k6 k7 k8 k9 k10=>obtain⟨aj,g1,gE,w1,w2,w3,w4,w5,w6,w7,rfl⟩:=rL hS ct hK k3 k4 k4' k5 k5' k6 k7 k8 k9 k10 e1;exact GR (je ct k1) ct.calm (by rw[ct.N];exact fh k2) w1 w2 w3 w4 w5 w6 w7 nm.nd nm.ix (ct.Vu _ hl) hb hi (by rw[kH ct mj eG,h2]) (λy=>k6.folded y) λb y=>k8.folded y
    . symm
   . symm
 |@tgt es k0 pt pos T e x h1 h2 h3 h4=>
  unfold aK at h;dsimp only at h;left
  . symm
  .
   rename_i hb;left
   .
    rename_i d g1 e1;left
    .
     rename_i g2 e2;symm;obtain⟨t,q,kt⟩:=rK (z:=z) ct hK h1 λi hi hm=>hb (by rw[BD];exact⟨i,hi,l7 hm⟩)
     obtain⟨te,qe,ke⟩:=aP hS ct hK h2 e1;have hsw:swapsWithSole [.Tuple es k0 pt] e pos.line X.env=pure false:=kG h2 h4 (some (.Tuple es k0 pt)) pos.line X.env;have eG:swappedStores [.Tuple es k0 pt] e X.env=pure none:=TF ct h2 h3;refine⟨_,xJ qe q hsw eG rfl,λY As M H E s k2=>ke Y As M H _ s λv H1 aY M1 s1 dH R=>?_⟩
     exact kt d g1 _ e2 v Y aY M1 H1 _ s1 R λσ' aF s' _=>k2 σ' aF M1 H1 s' dH
    . symm
   . symm
 |@item y i ix e xj x pn bY pos h1 h2 h3 h4 h5 h6=>
  obtain⟨hd,eF⟩:=bZ h3;unfold aK at h;dsimp only at h;left
  .
   rename_i d g1 e1;left
   .
    rename_i l0 e2;left
    .
     rename_i n g2 e3;left
     .
      rename_i l e4;left
      . rename_i m e5;symm;have hsw:swapsWithSole [.Subscript (.Name y pn) ix bY] e pos.line X.env=pure false:=kG h5 h6 (some (.Subscript (.Name y pn) ix bY)) pos.line X.env;have eG:swappedStores [.Subscript (.Name y pn) ix bY] e X.env=pure none:=TJ h5;exact K4 (by rw[ct.N];exact h1) (ct.vis h2) hd eF (aP hS ct hK h5 e1) e2 (aP hS ct hK h4 e3) e4 e5 (yL h4) hsw eG rfl
      . symm
     . symm
    . symm
   . symm
  . symm
 |aug h1 h2 h3=>
  have nm:=ct.nm h1 h2;unfold aK at h;dsimp only at h;left
  . symm
  .
   rename_i hb;left
   .
    rename_i d1 e1;left
    .
     rename_i d2 g1 e2;left
     . rename_i d e3;symm;exact RW nm hb (aP hS ct hK h3 e2) e1 (L5 e3)
     . symm
    . symm
   .
    rename_i e1;left
    .
     rename_i ho;subst ho;left
     .
      rename_i m g1 e2;left
      .
       rename_i l e3;left
       . rename_i hl;symm;exact LC nm (aP hS ct hK h3 e2) e1 e3 hl
       . symm
      . symm
     . symm
    . symm
   . symm
 |@items2 x y i j ix iy e xi yi xe pn Gu bY iH pt pos kt h1 h2 h3 h4 h5 h6 h7 h8 h9 h10=>
  obtain⟨hd,eF⟩:=bZ h3;obtain⟨hd2,R8⟩:=bZ h6;unfold aK at h;dsimp only at h;left
  .
   rename_i d1 d2 g1 e1;left
   .
    rename_i l0 e2;left
    .
     rename_i n1 g2 e3;left
     .
      rename_i l e4;left
      .
       rename_i m1 e5;left
       .
        rename_i l1 e6;left
        .
         rename_i n2 g3 e7;left
         .
          rename_i l2 e8;left
          . rename_i m2 e9;symm;have hsw:swapsWithSole [.Tuple [.Subscript (.Name x pn) ix bY,.Subscript (.Name y Gu) iy iH] kt pt] e pos.line X.env=pure false:=kG h9 h10 (some (.Tuple [.Subscript (.Name x pn) ix bY,.Subscript (.Name y Gu) iy iH] kt pt)) pos.line X.env;exact Cj ct.calm hK (by rw[ct.N];exact h1) (ct.vis h2) hd eF (by rw[ct.N];exact h4) (ct.vis h5) hd2 R8 (aP hS ct hK h9 e1) e2 (aP hS ct hK h7 e3) e4 e5 e6 (aP hS ct hK h8 e7) e8 e9 (yL h7) (yL h8) hsw (Hx h9)
          . symm
         . symm
        . symm
       . symm
      . symm
     . symm
    . symm
   . symm
  . symm
 |ite h1 h2 h3=>
  unfold aK at h;dsimp only at h;left
  . rename_i g1 e1;exact Ol (hS.t ct hK h1 e1) (by rw[fN rfl];exact hS.b ct mj hK h2 h)
  . rename_i g1 e1;exact Ol (hS.t ct hK h1 e1) (by rw[hU i8];exact hS.b ct mj hK h3 h)
  . symm
 |loop h1 h2 h3=>
  unfold aK at h;dsimp only at h;left
  . symm
  .
   rename_i hb;left
   . rename_i aj g1 e1;exact RP (uf ct) ct.calm (pN hS ct hK (wu h1) h2 e1) (rK ct hK h1 λi hi hm=>hb (by rw[BD];exact⟨i,hi,l7 hm⟩)) (pP (λe=>hS.b ct mj hK h3 e) h) λy=>h2.folded y
   . symm
 | «while» h1 h2=>exact FZ (uf ct) (yK (λe=>hS.t ct hK h1 e) (λe=>hS.b ct mj hK h2 e) h)
 |stuck=>symm
theorem Hy(hS:mS P rn)(ct:bD P k X c)(mj:c.df=true)(hK:z.K=X.K){ss:List Stmt}{x:Sm}{g g':G}{f:Fl}(h:Mp P (Cm P c) (JC P c) c ss x)(e:aK rn z.bor k x g=some (f,g')):Cv X z ss g f g':=by
 cases h with
 |@rows y x mn a b tn im it iy ia ib scope N' kb j lp px rp mp Vs Si ap py pa pb Dr y1 y2 a1 a2 b1 b2 Vm Vo Oz OJ OD Jw Vn Vp G0 rpos yr tp tk h1 h2 h3 h4 h5 h6 h7 h8 h9 h10=>
  unfold aK at e;dsimp only at e;split at e
  .
   rename_i m ao gm gt;split at e
   .
    rename_i gy ga gb;split at e
    .
     rename_i hm;split at e
     .
      rename_i ll hF;cases e;have hl:c.sc.names.lookup y=some .local:=by have:=h3.2.1;unfold DQ at this;simp only[dE]at this;exact eq_of_beq this.1.1
      have eG:fG c y=true:=by unfold fG;rw[hl]
      obtain⟨m,rfl⟩:∃n:Nat,m=n:=⟨m.toNat,by lia⟩
      rw[o6]at hF;obtain⟨dm,cm⟩:=bZ h1.2.2;obtain⟨dt,Yr⟩:=bZ h2.2.2;obtain⟨dy,cy⟩:=bZ h3.2.2;obtain⟨da,ca⟩:=bZ h4.1.2.2;obtain⟨db,cb⟩:=bZ h5.1.2.2;have ny:=ct.nm h3.1 eG;exact yu (uf ct) hK h7.1 (by rw[ct.N];exact fh h7.2.2.1) (je ct h7.2.1) ct.calm (λbk=>(ct.blk h7.2.2.2.1 bk).nm (by rw[ct.N];exact h7.2.2.2.2.1) h7.2.2.2.2.2) (ct.qm _ h8.2) (ct.md.bn _ h8.1) (by rw[ct.N];exact h1.1) (ct.vis h1.2.1) dm cm gm ⋯ ny.nd ny.ix (ct.Vu _ hl) dy cy gy (by rw[kH ct mj eG,h3.2.1])
       (ct.nm h4.1.1 h4.2) (ct.vis h4.1.2.1) da ca (ct.nm h5.1.1 h5.2) (ct.vis h5.1.2.1) db cb (by rw[ct.N];exact h2.1) (ct.vis h2.2.1) dt Yr gt ga gb h6.1 h6.2.1 h6.2.2 h9 h10 hF
     . cases e
    . cases e
   . cases e
  . cases e
theorem pQ(hS:mS P rn)(ct:bD P k X c)(mj:c.df=true)(hK:z.K=X.K):∀{uQ:List Stmt}{xs:List Sm}{g g':G}{f:Fl},Ho P c uQ xs->jr rn z.bor k xs g=some (f,g')->fD X z uQ g f g'
 |_,_,_,_,_,.nil,h=>by symm;exact Rv
 |_,_,_,_,f,.grp h1 h2,h=>by
  unfold jr at h;left
  . rename_i g1 e1;exact (Hy hS ct mj hK h1 e1).bk (pQ hS ct mj hK h2 h)
  . rename_i hn e1;symm;exact (Hy hS ct mj hK h1 e1).end λe=>hn e
  . symm
 |_,_,_,_,f,.cons h1 h2,h=>by
  unfold jr at h;left
  . rename_i g1 e1;exact KY (wC hS ct mj hK h1 e1) (pQ hS ct mj hK h2 h)
  .
   rename_i hn e1;symm;have q:=wC hS ct mj hK h1 e1;cases f with
   |nx=>exact absurd rfl hn
   |rt r=>exact Rx q
   |bk=>exact Ry q
   |ct=>exact Rz q
  . symm
end
theorem wD{P:Pg}{fns:List Fx}(hF:pO P fns):∀n,mS P (run fns n)
 | 0=>⟨λ_ _ _ h=>(by symm),λ_ _ _ h=>(by symm),λ_ _ _ _ h=>(by symm)⟩
 |n+1=>
  let a:=wD hF n
  ⟨λct hK hc h=>Hv a ⟨⟩ hF ct hK hc h,λct hK hc h=>Hw a ct hK hc h,λct mj hK hc h=>pQ a ct mj hK hc h⟩
theorem Mz{P:Pg}{fns:List Fx}(hF:pO P fns)(n:Nat):mS P (run fns n):=wD hF n
def bu(K:Frag)(mg:Str->Option Value)(fi:Fi):Prop:=
 ∃f fd,mg fi.name=some (.ref f)/\WT K fi.name fi.qual fi.st f fd/\fW fi.N fi.ps (aZ fi.st)/\(∀us:List Value,us.length=fi.ps.length->bindArgs fd ⟨us,[]⟩=pure (fi.ps.zip us))/\(fi.name==(~~~3))=false
def MF(K:Frag)(mg:Str->Option Value)(p:Str×D):Prop:=(p.1==(~~~3))=false/\∃v u,mg p.1=some u/\RelV v u/\∀M H,Rep K M H p.2 v
inductive All{α:Type}(p:α->Prop):List α->Prop
 |nil:All p []
 |cons {a:α}{l:List α}:p a->All p l->All p (a::l)
theorem All.mem{α:Type}{p:α->Prop}:∀{l:List α},All p l->∀a∈l,p a
 |_,.nil,_,h=>nomatch h
 |_,.cons h t,a,hm=>(d6.mp hm).elim (λe=>e▸h) (All.mem t a)
structure TL(P:Pg)(K:Frag)(mg:Str->Option Value):Prop where
 lam:P.lam=true->∀gg,PySem.W.codeIn K gg "law"=true->SJ K mg gg
 O4:∀(i:Nat) (C:Addr),P.O4[i]?=some C->∃x,P.cls[i]?=some x/\mg x=some (.ref C)/\BW K C/\W4 K C
 kt:P.lam=true->(P.kt==(~~~3))=false/\∃D,mg P.kt=some (.ref D)/\BW K D/\∀C∈P.O4,XM K C D=true
 ups:∀(x:Str) (l:List (Addr×Bool)),(x,l)∈P.ups->(x==(~~~3))=false/\∃cv,((mg x=some cv/\∃D,cv=.ref D)\/(x∈P.bn/\x≠ "__name__" /\bootBuiltins x=some cv/\∃n,cv=.type n))/\PySem.W.kitOne K (.type "NoneType") cv=some false/\∀C b,l.lookup C=some b->PySem.W.kitOne K (.ref C) cv=some b
theorem MJ{P:Pg}{K:Frag}{mg:Str->Option Value}(h1:P.lam=false)(h2:P.O4=[])(h3:P.ups=[]):TL P K mg:=
 ⟨λh=>(by rw[h1]at h;symm),λi C h=>(by rw[h2]at h;symm),λh=>(by rw[h1]at h;symm),λx l h=>(by rw[h3]at h;symm)⟩
theorem Yu{P:Pg}{K:Frag}{mg:Str->Option Value}(h1:All (bu K mg) P.fn)(h2:All (MF K mg) P.ct)(h3:All (λx=>mg x=none) P.bn)(h4:All (λx=>(x==(~~~3))=false/\∃C,mg x=some (.ref C)/\BW K C) P.cls)(h5:TL P K mg):CJ P K mg:=
 ⟨λi fi e=>let ⟨f,fd,q1,q2,q3,q4,q5⟩:=h1.mem fi (l6 e);⟨f,fd,q1,q2,q3,.all q4,q5⟩,λx d h=>h2.mem (x,d) h,λx h=>h3.mem x h,λx h=>h4.mem x h,h5.lam,h5.O4,h5.kt,h5.ups⟩
def BdOk(fi:Fi):Prop:=∀(kV doc pm:Value) (an:Option Addr) (gg ct:Value) (us:List Value),us.length=fi.ps.length->bindArgs (PySem.W.fnOf fi.name fi.qual (iW fi.st) (cA fi.st) (aZ fi.st) .none kV doc pm an gg ct) ⟨us,[]⟩=pure (fi.ps.zip us)
section
variable{K:Frag}
theorem Yv{fi:Fi}{oc:Value}{od an:Option Addr}{osl:Array (Option Value)}{kV doc pm gg ct:Value}(X:K.In h)(G:h.Ns mainGlobals mg)(a:PySem.W.nsIn K mainGlobals fi.name=some (some (.ref f)))
  (l:K.lookup f=some ⟨oc,od,.func (PySem.W.fnOf fi.name fi.qual (iW fi.st) (cA fi.st) (aZ fi.st) .none kV doc pm an gg ct),osl⟩) (c:PySem.W.codeIn K gg fi.qual=true) (k:PySem.W.keepIn K (.ref f)=true)
  (sc:fW fi.N fi.ps (aZ fi.st)) (hb:BdOk fi)
  (hd:(fi.name==(~~~3))=false):bu K mg fi:=
 let F:=QB (x:=fi.name) (qual:=fi.qual) (st:=fi.st) l c k
 ⟨f,_,PySem.W.mg_of X G a,F,sc,hb kV doc pm an gg ct,hd⟩
theorem Hz{x:Str}{i:Int}{t:Tok}(X:K.In h)(G:h.Ns mainGlobals mg)(a:PySem.W.nsIn K mainGlobals x=some (some (.int i t)))(hd:(x==(~~~3))=false):MF K mg (x,.int i):=
 ⟨hd,.int i,.int i t,PySem.W.mg_of X G a,⟨t,rfl⟩,λ_ _=>.int i⟩
theorem TQ{P:Pg}{fns:List Fx}{prog:Program}{w:World}{base:Heap}(hF:pO P fns)(md:CJ P K mg){i:Nat}{fi:Fi}{fx:Fx}{x:Str}{fd:FuncData}{n k:Nat}(Ss:P.fn[i]?=some fi)(DT:fns[i]?=some fx)(hp:fi.ps=[x])(F:WT K fi.name fi.qual fi.st f fd)(sc:fW fi.N fi.ps (aZ fi.st)) :
  qq prog w K mg base Jr (k+1) f fd [x] (RJ K fi.N 1 λbor g r g'=>(run fns n).b bor k fx.body g=some (.rt r,g')):=by
 have:=Om (P:=prog) (w:=w) (mg:=mg) (base:=base) (k:=k) (N:=fi.N) (ps:=fi.ps) (run:=λbor g r g'=>(run fns n).b bor k fx.body g=some (.rt r,g')) F sc λgg A outer s H E eF hr z g r g' hK hrun=>
  ⟨_,(Mz hF n).b (wz sc md eF hr) rfl hK (hF i fi fx Ss DT).body hrun,.inl rfl⟩
 rw[hp]at this;exact this
theorem HB{P:Pg}{fns:List Fx}{prog:Program}{w:World}(hF:pO P fns)(md:CJ P K mg){i:Nat}{fi:Fi}{fx:Fx}{x:Str}{n k:Nat}(Ss:P.fn[i]?=some fi)(DT:fns[i]?=some fx)(hp:fi.ps=[x])(h:bu K mg fi)(hm:mg fi.name=some (.ref f)) :
  ∃fd:FuncData,(∀(s:Shared) (u:Value),BindsTo s fd ⟨[u],[]⟩ [(x,u)])/\∀base:Heap,K.In base->base.Ns mainGlobals mg->qq prog w K mg base Jr (k+1) f fd [x] (RJ K fi.N 1 λbor g r g'=>(run fns n).b bor k fx.body g=some (.rt r,g')):=by
 obtain⟨f',fd,q1,q2,q3,q4,q5⟩:=h;rw[hm]at q1;cases q1;refine⟨fd,λs u=>.of_eq ?_,λbase _ _=>TQ hF md Ss DT hp q2 q3⟩
 have:=q4 [u] (by rw[hp];rfl)
 rw[hp]at this;exact this
theorem TV{N:List Str}{run:List Nat->G->R->G->Prop}(hev:∀ns:List Int,ns.length<=63->∃g',run [] (gn N.length [.dat (.fix (ns.map .int))]) (.dat (.bl true)) g')(K:Frag)(H:Hp)(a:Addr)(ns: ~~~0)(hl:ns.length<=63)(hO:zL ((gk K).map (·.1)) H)(hS:cB K H a (ns.map V.int)) :
  RJ K N 1 run [.ref a] H (λv _=>v=.bl true) λ_ _ _=>False:=by
 obtain⟨g',hg⟩:=hev ns hl;have fx:mD K ((gk K).map (·.1)) H a (ns.map V.int):=by
  rcases hS with h |h
  .
   rcases hO a with ⟨_,z⟩ |⟨na,z⟩
   . rcases h with h |⟨o,h⟩ <;> (rw[z]at h;symm)
   .
    refine .inl ⟨na,?_⟩;rcases h with h |h
    .
     rcases z with z |⟨o,xs,z⟩
     . rw[z]at h;symm
     . rw[z]at h;symm
    . exact h
  . exact .inr (.inr h)
 have rr:∀ns:List Int,aI K ((gk K).map (·.1)) H (ns.map D.int) (ns.map V.int):=λns=>by
  induction ns with
  |nil=>exact .nil
  |cons n ns ih=>exact .cons (.int n) ih
 have tb:∀p∈gk K,H p.1=some (.Dt #[]):=λp hp=>by
  rcases hO p.1 with ⟨_,z⟩ |⟨z,_⟩
  . exact z
  . exact absurd (fR.mpr ⟨p,hp,rfl⟩) z
 refine⟨rfl,⟨K,H,(gk K).map (·.1),[],gk K⟩,gn N.length [.dat (.fix (ns.map .int))],g',[],(gk K).map (·.1),.dat (.bl true),rfl,?_,hg,λv σ' aF M' H' s' st R=>gP R⟩
 refine⟨?_,yY,(λa ha=>nomatch ha),λi b l e1 e2=>?_,(λm hm=>.inr hm),(λb o e _ _=>e),(λm hm=>hm),(λm hm=>?_),(λb hb=>nomatch hb),(λp hp=>nomatch hp),(λp hp=>⟨#[],tb p hp,trivial,λpos cv e=>nomatch e⟩),(λp hp=>fR.mpr ⟨p,hp,rfl⟩),rfl⟩
 . exact Slots.append (A1:=[]) (.dat (.fix fx (rr ns)) .nil) (Slots.Zy _)
 .
  exfalso;unfold gn at e1;cases i with
  |zero=>simp at e1
  |succ i=>rw[eQ ⋯]at e1;have:=l6 e1;rw[xL]at this;exact absurd this.2 ⋯
 . obtain⟨p,hp,rfl⟩:=fR.mp hm;intro z;have z:H p.1=none:=z;rw[tb p hp]at z;cases z
end
noncomputable abbrev Fi.ct(fi:Fi):Ct:=⟨fi.N,aZ fi.st,true,fi.qual⟩
def zU(P:Pg)(fi:Fi)(fx:Fx):List Stmt:=qJ (Tp P 99 (O9 P 99 20 fi.ct) fi.ct) (O9 P 99 20 fi.ct) fx.body (cA fi.st)
def fxB(P:Pg)(fi:Fi)(fx:Fx):Bool:=decide (fx.np=fi.ps.length)&&(decide (fx.n=fi.N.length)&&JB (Tq P 99 (Pa P 99 20 fi.ct) fi.ct) (Pa P 99 20 fi.ct) fx.body (cA fi.st))
theorem TX{P:Pg}{fi:Fi}{fx:Fx}(e:zU P fi fx=cA fi.st)(h:fxB P fi fx=true):Mx P fi fx:=⟨dec (aq h).1,dec (aq (aq h).2).1,Eq.mp (congrArg (λl=>Ho P fi.ct l fx.body) e) (Ho.mk (aq (aq h).2).2)⟩
def HD(P:Pg):List Fi->List Fx->Bool
 |fi::l,fx::r=>fxB P fi fx&&HD P l r
 |_,_=>true
theorem MK{P:Pg}{l:List Fi}{r:List Fx}(e:List.zipWith (zU P) l r=l.map λfi=>cA fi.st)(h:HD P l r=true)(f:Nat)(fi:Fi)(fx:Fx)(h1:l[f]?=some fi)(h2:r[f]?=some fx):Mx P fi fx:=by
 induction l generalizing r f with
 |nil=>cases h1
 |cons a l ih=>cases r with
  |nil=>cases h2
  |cons b r=>
   have h:(fxB P a b&&HD P l r)=true:=h;cases f with
   |zero=>cases h1;cases h2;exact TX (List.cons.inj e).1 (aq h).1
   |succ f=>exact ih (List.cons.inj e).2 (aq h).2 f h1 h2
theorem TY{P:Pg}{fns:List Fx}(h:HD P P.fn fns=true)(e:List.zipWith (zU P) P.fn fns=P.fn.map λfi=>cA fi.st):pO P fns:=λf fi fx h1 h2=>MK e h f fi fx h1 h2
theorem Yw{us:List Value}(h:us.length=1):∃a,us=[a]:=by
 cases us with
 |nil=>symm
 |cons a us=>cases us with
  |nil=>exact⟨a,rfl⟩
  |cons _ _=>symm
theorem Yx{us:List Value}(h:us.length=2):∃a b,us=[a,b]:=by
 cases us with
 |nil=>symm
 |cons a us=>obtain⟨b,rfl⟩:=Yw (CA h);exact⟨a,b,rfl⟩
theorem len3{us:List Value}(h:us.length=3):∃a b c,us=[a,b,c]:=by
 cases us with
 |nil=>symm
 |cons a us=>obtain⟨b,c,rfl⟩:=Yx (CA h);exact⟨a,b,c,rfl⟩
def bA(st:Stmt):Fi:=match st with
 |.FunctionDef name args _ _ _ _ scope _ _ _=>⟨name,name,st,(args.args.map (·.arg))++scope.names.filterMap (λy=>if (y.2==.local||y.2==.cell)&&!(args.args.map (·.arg)).contains y.1 then some y.1 else none),args.args.map (·.arg)⟩
 |st=>⟨"", "",st,[],[]⟩
section
theorem HF(ds:List D):∀i,vars i (ds.map R.dat)=[]:=by
 induction ds with
 |nil=>intro i;rfl
 |cons d ds ih=>intro i;exact ih (i+1)
theorem HJ(ds:List D):eu (ds.map R.dat) g1=some (ds.map .dat):=by
 induction ds with
 |nil=>rfl
 |cons d ds ih=>
  show (match eu (ds.map R.dat) g1 with |some gs=>some (Slot.dat d::gs) |none=>none)=_
  rw[ih];rfl
noncomputable def Vx:List D->G
 | []=>[]
 |d::l=>.dat d::Vx l
theorem MN(ds:List D):Vx ds=ds.map .dat:=by
 induction ds with
 |nil=>rfl
 |cons d ds ih=>rw[Vx,ih];rfl
def aQ(rn:Rn)(k:Nat)(fx:Fx)(ds:List D):Option R:=match rn.b [] k fx.body (gn fx.n (Vx ds))with
 |some (.rt r,gc)=>gZ [] gc r
 |some (.nx,_)=>some (.dat .non)
 |_=>none
theorem lN{fx:Fx}{ds:List D}(hl:ds.length=fx.np):bG rn fx k (ds.map .dat) g1=(aQ rn k fx ds).map λr=>(r,g1):=by
 unfold bG aQ;rw[HF,HJ,MN];simp only[eA,hl,List.map_nil,yY,and_self,yA];cases rn.b [] k fx.body (gn fx.n (ds.map .dat))with
 |none=>rfl
 |some p=>
  obtain⟨f,gc⟩:=p;cases f with
  |nx=>rfl
  |rt r=>simp only[back];cases gZ [] gc r <;> rfl
  |bk=>rfl
  |ct=>rfl
noncomputable def gM(g m:G)(acc:List D):G:=g++(m++[.own acc])
theorem jg{g m:G}{acc:List D}{i:Nat}(h:i<g.length):(gM g m acc)[i]?=g[i]?:=by unfold gM;rw[dS h]
theorem dc{g m:G}{acc:List D}{i:Nat}(h:i<m.length):(gM g m acc)[g.length+i]?=m[i]?:=by unfold gM;rw[eQ ⋯,oP,dS h]
theorem jh{g m:G}{acc:List D}:(gM g m acc)[g.length+m.length]?=some (.own acc):=by unfold gM;rw[eQ ⋯,oP,eQ (eD _),Nat.sub_self];rfl
theorem jO{g m:G}{acc:List D}{i:Nat}{s:Slot}(h:i<m.length):(gM g m acc).set (g.length+i) s=gM g (m.set i s) acc:=by unfold gM;rw[A8 _ _ ⋯,oP,List.set_append_left _ _ h]
theorem iQ{g m:G}{acc acc':List D}:(gM g m acc).set (g.length+m.length) (.own acc')=gM g m acc':=by unfold gM;rw[A8 _ _ ⋯,oP,A8 _ _ (eD _),Nat.sub_self];rfl
theorem ug{g m:G}{acc:List D}:(gM g m acc).take g.length=g:=by unfold gM;simp
theorem HN{kk:Nat}:gC kk g=gM g (List.replicate kk .no) []:=rfl
theorem uh{α:Type}{T:Tg}{last kk:Nat}{c:Option Ex}{e:Ex}(cF:α->D)(f:α->D)(p:α->Bool)(st:α->G->G)(dg:last=g.length+kk)(eG:∀d m,m.length=kk->(st d m).length=kk) :
  ∀(aj:List α) (m:G) (acc:List D),m.length=kk->acc.length+aj.length<=lim->
  (∀d∈aj,∀m acc,m.length=kk->T.set (cF d) (gM g m acc)=some (gM g (st d m) acc))->
  (∀d∈aj,∀m acc,m.length=kk->mR rn bor k c (gM g (st d m) acc)=some (p d,gM g (st d m) acc))->
  (∀d∈aj,p d=true->∀m acc,m.length=kk->eE rn bor k e (gM g (st d m) acc)=some (f d,gM g (st d m) acc))->
  ∃m',m'.length=kk/\yz rn bor k T last c e (aj.map cF) (gM g m acc)=some (gM g m' (acc++(aj.filter p).map f))
 | [],m,acc,hm,_,_,_,_=>⟨m,hm,by simp[yz]⟩
 |d::aj,m,acc,hm,hl,hT,hi,he=>by
  rw[i5]at hl;have q1:=hT d c8 m acc hm;have q2:=hi d c8 m acc hm;have hm':=eG d m hm;rw[List.map_cons];unfold yz;rw[q1];dsimp only;rw[q2];cases hp:p d with
  |false=>
   dsimp only;obtain⟨m',w1,w2⟩:=uh cF f p st dg eG aj (st d m) acc hm' ⋯ (λx hx=>hT x (bP _ hx)) (λx hx=>hi x (bP _ hx)) (λx hx=>he x (bP _ hx))
   exact⟨m',w1,by rw[w2,BE,hp];rfl⟩
  |true=>
   have q3:=he d c8 hp m acc hm;dsimp only;rw[q3];dsimp only;have q4:(gM g (st d m) acc)[last]?=some (.own acc):=by rw[dg,<- hm'];exact jh
   rw[q4];dsimp only;rw[fN ⋯];have q5:(gM g (st d m) acc).set last (.own (acc++[f d]))=gM g (st d m) (acc++[f d]):=by rw[dg,<- hm'];exact iQ
   rw[q5];obtain⟨m',w1,w2⟩:=uh cF f p st dg eG aj (st d m) (acc++[f d]) hm' (by rw[eC,l5];lia) (λx hx=>hT x (bP _ hx)) (λx hx=>hi x (bP _ hx)) (λx hx=>he x (bP _ hx))
   refine⟨m',w1,?_⟩;rw[w2,BE,hp];simp
theorem lO{α:Type}{kk nn:Nat}{T:Tg}{it:Ex}{c:Option Ex}{e:Ex}(aj:List α)(cF:α->D)(f:α->D)(p:α->Bool)(st:α->G->G)(hw:cD rn bor k T.eT it g=some (aj.map cF,g1))(hn:nn=g1.length)(hb:(T.ix.any λi=>decide (i∈bor))=false)(hl:aj.length<=lim)(eG:∀d m,m.length=kk->(st d m).length=kk)
  (hT:∀d∈aj,∀m acc,m.length=kk->T.set (cF d) (gM g1 m acc)=some (gM g1 (st d m) acc))
  (hi:∀d∈aj,∀m acc,m.length=kk->mR rn bor k c (gM g1 (st d m) acc)=some (p d,gM g1 (st d m) acc))
  (he:∀d∈aj,p d=true->∀m acc,m.length=kk->eE rn bor k e (gM g1 (st d m) acc)=some (f d,gM g1 (st d m) acc)) :
  eV rn bor k nn kk T it c e g=some ((aj.filter p).map f,g1):=by
 subst hn;obtain⟨m',w1,w2⟩:=uh (rn:=rn) (bor:=bor) (k:=k) (g:=g1) (last:=g1.length+kk) cF f p st rfl eG aj (List.replicate kk .no) [] ⋯ (by simpa using hl) hT hi he
 unfold eV;rw[hw];dsimp only;rw[fN ⟨rfl,hb⟩,HN,w2];dsimp only;have:(gM g1 m' ([]++(aj.filter p).map f))[g1.length+kk]?=some (.own ([]++(aj.filter p).map f)):=by rw[<- w1];exact jh
 rw[this];dsimp only;rw[ug,AZ]
theorem pR{j kk:Nat}{d:D}{m:G}{acc:List D}(hj:g.length<=j)(hk:j - g.length<m.length):(Tg.nm j).set d (gM g m acc)=some (gM g (m.set (j - g.length) (.dat d)) acc):=by
 show some ((gM g m acc).set j (.dat d))=_;have:=jO (g:=g) (acc:=acc) (s:=.dat d) hk;rw[show g.length+(j - g.length)=j by lia]at this
 rw[this]
def um(g:G)(j:Nat)(d:D)(G':G):Prop:=(∀i,i<g.length->G'[i]?=g[i]?)/\G'[j]?=some (.dat d)
theorem rM{α:Type}{kk nn j:Nat}{it:Ex}{c:Option Ex}{e:Ex}(aj:List α)(cF:α->D)(p:α->Bool)(f:α->D)(hw:cD rn bor k false it g=some (aj.map cF,g1))(hn:nn=g1.length)(hj1:g1.length<=j)(hj2:j<g1.length+kk)(hb:j∉bor)(hl:aj.length<=lim)
  (hi:∀a∈aj,∀G',um g1 j (cF a) G'->mR rn bor k c G'=some (p a,G')) (he:∀a∈aj,p a=true->∀G',um g1 j (cF a) G'->eE rn bor k e G'=some (f a,G')) :
  eV rn bor k nn kk (.nm j) it c e g=some ((aj.filter p).map f,g1):=by
 have sees:∀(a:α) (m:G) (acc:List D),m.length=kk->um g1 j (cF a) (gM g1 (m.set (j - g1.length) (.dat (cF a))) acc):=λa m acc hm=>by
  refine⟨λi hi=>jg hi,?_⟩
  have:=dc (g:=g1) (m:=m.set (j - g1.length) (.dat (cF a))) (acc:=acc) (i:=j - g1.length) (by simp;lia)
  rw[show g1.length+(j - g1.length)=j by lia]at this
  rw[this,hZ ⋯]
 refine lO (T:=.nm j) aj cF f p (λa m=>m.set (j - g1.length) (.dat (cF a))) hw hn (by simp[Tg.ix,hb]) hl (λd m hm=>by simpa using hm) (λa _ m acc hm=>pR (kk:=kk) hj1 ⋯) (λa ha m acc hm=>hi a ha _ (sees a m acc hm)) λa ha hp m acc hm=>he a ha hp _ (sees a m acc hm)
theorem filter_all{α:Type}(l:List α):l.filter (λ_=>true)=l:=List.filter_eq_self.mpr λ_ _=>rfl
theorem eW{α:Type}{kk nn j:Nat}{it:Ex}{e:Ex}(aj:List α)(cF:α->D)(f:α->D)(hw:cD rn bor k false it g=some (aj.map cF,g1))(hn:nn=g1.length)(hj1:g1.length<=j)(hj2:j<g1.length+kk)(hb:j∉bor)(hl:aj.length<=lim)
  (he:∀a∈aj,∀G',um g1 j (cF a) G'->eE rn bor k e G'=some (f a,G')):eV rn bor k nn kk (.nm j) it none e g=some (aj.map f,g1):=by
 have:=rM (c:=none) aj cF (λ_=>true) f hw hn hj1 hj2 hb hl (λ_ _ _ _=>rfl) λa ha _ G' hG=>he a ha G' hG
 rw[filter_all]at this;exact this
def iR(g:G)(j1 j2:Nat)(d1 d2:D)(G':G):Prop:=(∀i,i<g.length->G'[i]?=g[i]?)/\G'[j1]?=some (.dat d1)/\G'[j2]?=some (.dat d2)
theorem cK{α:Type}{kk nn j1 j2:Nat}{it:Ex}{c:Option Ex}{e:Ex}(aj:List α)(bE cE:α->D)(p:α->Bool)(f:α->D)(hw:cD rn bor k true it g=some (aj.map λa=>.tup [bE a,cE a],g1))(hn:nn=g1.length)(hj1:g1.length<=j1)(Yy:j1<g1.length+kk)(hj2:g1.length<=j2)(Yz:j2<g1.length+kk)(g7:j1≠j2)(hb1:j1∉bor)(hb2:j2∉bor)(hl:aj.length<=lim)
  (hi:∀a∈aj,∀G',iR g1 j1 j2 (bE a) (cE a) G'->mR rn bor k c G'=some (p a,G')) (he:∀a∈aj,p a=true->∀G',iR g1 j1 j2 (bE a) (cE a) G'->eE rn bor k e G'=some (f a,G')) :
  eV rn bor k nn kk (.tp [j1,j2]) it c e g=some ((aj.filter p).map f,g1):=by
 have sees:∀(a:α) (m:G) (acc:List D),m.length=kk->iR g1 j1 j2 (bE a) (cE a) (gM g1 ((m.set (j1 - g1.length) (.dat (bE a))).set (j2 - g1.length) (.dat (cE a))) acc):=λa m acc hm=>by
  refine⟨λi hi=>jg hi,?_,?_⟩
  .
   have:=dc (g:=g1) (m:=(m.set (j1 - g1.length) (.dat (bE a))).set (j2 - g1.length) (.dat (cE a))) (acc:=acc) (i:=j1 - g1.length) (by simp;lia)
   rw[show g1.length+(j1 - g1.length)=j1 by lia]at this
   rw[this,gL ⋯,hZ ⋯]
  .
   have:=dc (g:=g1) (m:=(m.set (j1 - g1.length) (.dat (bE a))).set (j2 - g1.length) (.dat (cE a))) (acc:=acc) (i:=j2 - g1.length) (by simp;lia)
   rw[show g1.length+(j2 - g1.length)=j2 by lia]at this
   rw[this,hZ (by simp;lia)]
 refine lO (T:=.tp [j1,j2]) aj (λa=>.tup [bE a,cE a]) f p (λa m=>(m.set (j1 - g1.length) (.dat (bE a))).set (j2 - g1.length) (.dat (cE a))) hw hn (by simp[Tg.ix,hb1,hb2]) hl (λd m hm=>by simpa using hm) (λa _ m acc hm=>?_) (λa ha m acc hm=>hi a ha _ (sees a m acc hm)) λa ha hp m acc hm=>he a ha hp _ (sees a m acc hm)
 have q1:=jO (g:=g1) (m:=m) (acc:=acc) (i:=j1 - g1.length) (s:=.dat (bE a)) ⋯;have q2:=jO (g:=g1) (m:=m.set (j1 - g1.length) (.dat (bE a))) (acc:=acc) (i:=j2 - g1.length) (s:=.dat (cE a)) (by simp;lia)
 rw[show g1.length+(j1 - g1.length)=j1 by lia]at q1
 rw[show g1.length+(j2 - g1.length)=j2 by lia]at q2
 show some (((gM g1 m acc).set j1 (.dat (bE a))).set j2 (.dat (cE a)))=_;rw[q1,q2]
theorem uo{α:Type}{kk nn j1 j2:Nat}{it:Ex}{e:Ex}(aj:List α)(bE cE:α->D)(f:α->D)(hw:cD rn bor k true it g=some (aj.map λa=>.tup [bE a,cE a],g1))(hn:nn=g1.length)(hj1:g1.length<=j1)(Yy:j1<g1.length+kk)(hj2:g1.length<=j2)(Yz:j2<g1.length+kk)(g7:j1≠j2)(hb1:j1∉bor)(hb2:j2∉bor)(hl:aj.length<=lim)
  (he:∀a∈aj,∀G',iR g1 j1 j2 (bE a) (cE a) G'->eE rn bor k e G'=some (f a,G')):eV rn bor k nn kk (.tp [j1,j2]) it none e g=some (aj.map f,g1):=by
 have:=cK (c:=none) aj bE cE (λ_=>true) f hw hn hj1 Yy hj2 Yz g7 hb1 hb2 hl (λ_ _ _ _=>rfl) λa ha _ G' hG=>he a ha G' hG
 rw[filter_all]at this;exact this
theorem zV{c:G->Option (Bool×G)}{b:G->Option (Fl×G)}(I:Nat->G->Prop)(step:∀m g,I (m+1) g->∃g1 g2,c g=some (true,g1)/\b g1=some (.nx,g2)/\I m g2)(fin:∀g,I 0 g->c g=some (false,g)) :
  ∀m N g,m<N->I m g->∃g',I 0 g'/\xB c b N g=some (.nx,g')
 | 0,N+1,g,_,h=>⟨g,h,by unfold xB;rw[fin g h]⟩
 |m+1,N+1,g,hN,h=>by
  obtain⟨g1,g2,q1,q2,q3⟩:=step m g h;obtain⟨g',w1,w2⟩:=zV I step fin m N g2 ⋯ q3;exact⟨g',w1,by unfold xB;rw[q1];dsimp only;rw[q2];exact w2⟩
theorem cQ{α:Type}{T:Tg}{b:G->Option (Fl×G)}(cF:α->D)(I:List α->G->Prop)(step:∀a l g,I (a::l) g->∃g1 g2,T.set (cF a) g=some g1/\b g1=some (.nx,g2)/\I l g2):∀l g,I l g->∃g',I [] g'/\dj T b (l.map cF) g=some (.nx,g')
 | [],g,h=>⟨g,h,rfl⟩
 |a::l,g,h=>by
  obtain⟨g1,g2,q1,q2,q3⟩:=step a l g h;obtain⟨g',w1,w2⟩:=cQ cF I step l g2 q3;exact⟨g',w1,by rw[List.map_cons];unfold dj;rw[q1];dsimp only;rw[q2];exact w2⟩
end
theorem ints_map(l: ~~~0):aR (l.map .int)=some l:=by
 induction l with
 |nil=>rfl
 |cons a l ih=>simp[aR,ih]
theorem MP(l:List Bool):vj (l.map .bl)=some l:=by
 induction l with
 |nil=>rfl
 |cons a l ih=>simp[vj,ih]
theorem wF(l: ~~~5)(h:∀x∈l,x≠[]):g9 (l.map λx=>.tup (x.map .int))=some l:=by
 induction l with
 |nil=>rfl
 |cons a l ih=>
  have ha:=h a c8;cases a with
  |nil=>exact absurd rfl ha
  |cons x a=>
   have:=ints_map (x::a);simp only[List.map_cons]at this ⊢
   simp only[g9,this,ih λy hy=>h y (bP _ hy)]
theorem rN(a: ~~~0)(l: ~~~5):aR ((a::l).map λ(x: ~~~0)=>.tup (x.map .int))=none:=rfl
theorem HQ(l:List D):jS .len [.tup l]=some (.dat (.int l.length)):=rfl
theorem HR(l:List D):jS .len [.lst l]=some (.dat (.int l.length)):=rfl
theorem pS(l:List D):jS .len [.fix l]=some (.dat (.int l.length)):=rfl
theorem CZ(l:List D):jS .list [.tup l]=some (.new l):=rfl
theorem Dc(l:List D):jS .list [.lst l]=some (.new l):=rfl
theorem yM(l:List D):jS .tuple [.lst l]=some (.dat (.tup l)):=rfl
theorem yN(l:List D):jS .tuple [.tup l]=some (.dat (.tup l)):=rfl
theorem MT(i j:Int):jS .max [.int i,.int j]=some (.dat (.int (if j > i then j else i))):=rfl
theorem M7(i j:Int):jS .min [.int i,.int j]=some (.dat (.int (if j<i then j else i))):=rfl
theorem pU(l:List Bool):jS .all [.lst (l.map .bl)]=some (.dat (.bl (l.all id))):=by simp only[jS,G5,MP]
theorem mU(l: ~~~0)(h:l.length<64):jS .sorted [.lst (l.map .int)]=some (.new ((bh l).map .int)):=by simp only[jS,G5,bx,ints_map,h,yA]
theorem mV(l: ~~~0)(h:l.length<64):jS .sorted [.tup (l.map .int)]=some (.new ((bh l).map .int)):=by simp only[jS,G5,bx,ints_map,h,yA]
theorem wG(l: ~~~0):jS .sum [.tup (l.map .int)]=some (.dat (.int l.sum)):=by simp only[jS,G5,bx,ints_map]
theorem kI(l: ~~~0):jS .sum [.lst (l.map .int)]=some (.dat (.int l.sum)):=by simp only[jS,G5,bx,ints_map]
theorem HS(n:Int)(l: ~~~0):jS .min [.tup ((n::l).map .int)]=some (.dat (.int (iG n l))):=by
 have:=ints_map (n::l);rw[List.map_cons]at this ⊢
 simp only[jS,G5,bx,this]
theorem fH(l: ~~~5)(hn:∀x∈l,x≠[])(h:l.length<64):jS .sorted [.lst (l.map λx=>.tup (x.map .int))]=some (.new ((cS dR l).map λx=>.tup (x.map .int))):=by
 cases l with
 |nil=>rfl
 |cons a l=>have e:=wF (a::l) hn;simp only[jS,G5,bx,rN,e,h,yA]
theorem dz:∀a b:List Int,dB (a.map .int) (b.map .int)=decide (a=b)
 | [],[]=>rfl
 | [],_::_=>rfl
 |_::_,[]=>rfl
 |x::a,y::b=>by
  simp only[List.map_cons,dB,cP,dz a b,List.cons.injEq,Bool.decide_and];rfl
theorem dW(a: ~~~0):fS (a.map .int)=true:=by
 induction a with
 |nil=>rfl
 |cons x a ih=>simp[fS,iZ,ih]
theorem fj(a: ~~~0):deps (a.map .int)=0:=by
 induction a with
 |nil=>rfl
 |cons x a ih=>simp[deps,dep,ih]
theorem rO(a b: ~~~0):kr (.tup (a.map .int)) (.tup (b.map .int))=true:=by simp[kr,iZ,dW,dep,fj]
theorem pW(a b: ~~~0):kr (.lst (a.map .int)) (.lst (b.map .int))=true:=by simp[kr,iZ,dW,dep,fj]
theorem T3(a b: ~~~0):fT .Eq (.tup (a.map .int)) (.tup (b.map .int))=some (decide (a=b)):=by simp only[fT,rO,yA,cP,dz]
theorem HW(a b: ~~~0):fT .NotEq (.tup (a.map .int)) (.tup (b.map .int))=some (!decide (a=b)):=by simp only[fT,rO,yA,cP,dz]
theorem HX(a b: ~~~0):fT .Eq (.lst (a.map .int)) (.lst (b.map .int))=some (decide (a=b)):=by simp only[fT,pW,yA,cP,dz]
theorem yO(a b: ~~~0):fT .NotEq (.lst (a.map .int)) (.lst (b.map .int))=some (!decide (a=b)):=by simp only[fT,pW,yA,cP,dz]
theorem T4(a b:Int):fT .Eq (.int a) (.int b)=some (decide (a=b)):=rfl
theorem T5(a b:Int):fT .NotEq (.int a) (.int b)=some (!decide (a=b)):=rfl
theorem T6(a b:Int):fT .Lt (.int a) (.int b)=some (decide (a<b)):=rfl
theorem T7(a b:Int):fT .LtE (.int a) (.int b)=some (decide (a<=b)):=rfl
theorem T8(a b:Int):fT .Gt (.int a) (.int b)=some (decide (a > b)):=rfl
theorem T9(a b:Int):fT .GtE (.int a) (.int b)=some (decide (a ≥ b)):=rfl
theorem M8(a b:Int):nI .Add (.int a) (.int b)=some (.dat (.int (a+b))):=rfl
theorem M9(a b:Int):nI .Sub (.int a) (.int b)=some (.dat (.int (a - b))):=rfl
theorem ix_t(l:List D)(i:Int):uO (.tup l) (.int i)=L2.eU l i:=rfl
theorem ix_l(l:List D)(i:Int):uO (.lst l) (.int i)=L2.eU l i:=rfl
theorem ix_f(l:List D)(i:Int):uO (.fix l) (.int i)=L2.eU l i:=rfl
theorem kJ{α:Type}(l:List α)(i:Nat)(h:i<l.length):L2.eU l (i:Int)=some l[i]:=by unfold L2.eU L2.nk;rw[fN ⋯,fN ⋯];simp[h]
theorem wH(l: ~~~0)(i:Nat)(h:i<l.length):L2.eU (l.map D.int) (i:Int)=some (.int l[i]):=by
 rw[kJ _ _ (by simpa using h)]
 simp
theorem is_tup(l:List D):tR (vn (.tup l)) "tuple"=true:=rfl
theorem Ua(i:Int):tR (vn (.int i)) "int"=true:=rfl
theorem HY(i:Int):tR (vn (.int i)) "bool"=false:=rfl
theorem iS(m:Nat):bK 0 m=((List.range m).map λ(k:Nat)=>(k:Int)).map .int:=by simp[bK]
theorem au(m:Nat)(h:m<=1000):m<=lim:=kA h ⋯
theorem aD(i:Int)(h:0<=i/\i<=1000):DP i=true:=by unfold DP;simp only[dE,dL];lia
section
theorem aJ{fx:Fx}{d:D}(h:fx.np=1):bG rn fx k [.dat d] g1=(aQ rn k fx [d]).map λr=>(r,g1):=lN (ds:=[d]) h.symm
theorem aE{fx:Fx}{d e:D}(h:fx.np=2):bG rn fx k [.dat d,.dat e] g1=(aQ rn k fx [d,e]).map λr=>(r,g1):=lN (ds:=[d,e]) h.symm
theorem bz{fx:Fx}{d e f:D}(h:fx.np=3):bG rn fx k [.dat d,.dat e,.dat f] g1=(aQ rn k fx [d,e,f]).map λr=>(r,g1):=lN (ds:=[d,e,f]) h.symm
end
structure jt(fns:List Fx)(rn:Nat->Rn):Prop where
 e:∀(n:Nat) (bor:List Nat) (k:Nat) (x:Ex) (g:G),(rn (n+1)).e bor k x g=bw (rn n) bor k fns x g
 t:∀(n:Nat) (bor:List Nat) (k:Nat) (x:Ex) (g:G),(rn (n+1)).t bor k x g=stepT (rn n) bor k x g
 b:∀(n:Nat) (bor:List Nat) (k:Nat) (x:List Sm) (g:G),(rn (n+1)).b bor k x g=jr (rn n) bor k x g
 x:∀(n:Nat) (bor:List Nat) (k:Nat) (x:Ex) (g:G),(rn (n+1)).x bor k x g=G8 (rn n) bor k fns x g
 xt:∀(n:Nat) (bor:List Nat) (k:Nat) (x:Ex) (g:G),(rn (n+1)).xt bor k x g=yC (rn n) bor k x g
 xb:∀(n:Nat) (bor:List Nat) (k:Nat) (x:List Sm) (g:G),(rn (n+1)).xb bor k x g=yD (rn n) bor k x g
theorem Nb(fns:List Fx):jt fns (run fns):=⟨λ_ _ _ _ _=>rfl,λ_ _ _ _ _=>rfl,λ_ _ _ _ _=>rfl,λ_ _ _ _ _=>rfl,λ_ _ _ _ _=>rfl,λ_ _ _ _ _=>rfl⟩
def zW(rn:Rn)(k:Nat)(fx:Fx)(ds:List D):Option Nat:=match rn.xb [] k fx.body (gn fx.n (Vx ds))with
 |some (ci,_)=>some ci
 |none=>none
abbrev evZ:=And.intro @is_tup (And.intro @Ua (And.intro @HY (And.intro @HQ (And.intro @HR (And.intro @CZ (And.intro @Dc (And.intro @yM (And.intro @yN (And.intro @MT (And.intro @M7 (And.intro @pU (And.intro @wG (And.intro @kI (And.intro @T3 (And.intro @HW (And.intro @HX (And.intro @yO (And.intro @T4 (And.intro @T5 (And.intro @T6 (And.intro @T7 (And.intro @T8 (And.intro @T9 (And.intro @M8 (And.intro @M9 (And.intro @ix_t (And.intro @ix_l @ix_f)))))))))))))))))))))))))))
abbrev unfZ{fns rn}(U:jt fns rn):=And.intro U.e (And.intro U.t (And.intro U.b (And.intro U.x (And.intro U.xt U.xb))))
end Ev
local macro_rules | `(tactic|simp! [$u:term,$ls,*])=>`(tactic|simp[-List.map_map,-List.map_cons,-List.map_nil,Ev.unfZ $u,Ev.evZ,Ev.G8,Ev.yC,Ev.Sy,Ev.yD,Ev.xArgs,Ev.jr,Ev.aK,Ev.bw,Ev.stepT,Ev.argsR,Ev.ku,Ev.eE,Ev.toD,Ev.norm,Ev.pk,Ev.qF,Ev.gn,Ev.gZ,Ev.Vx,Ev.G6,Ev.X6,Ev.vY,Ev.G7,Ev.DN,Ev.Lf,$ls,*])
local macro_rules | `(~~~$x)=>`(Ev.D.tup (List.map Ev.D.int $x))
local macro_rules|`(∅)=>`((λx=>~~~x))
local macro_rules|`(~~~5)=>`(List (List Int))
local macro_rules|`(~~~0)=>`(List Int)
local macro_rules|`(~~~1)=>`(List (Addr×Obj))
set_option hygiene false in
local macro_rules|`(~~~2)=>`(model X.prog X.w)
local macro_rules|`(~~~3)=>`(("__debug__":Str))
local macro_rules|`(~~~4)=>`([(.ret (.val (.bl false)))])
set_option hygiene false in
local macro_rules|`(~~~7)=>`(Inv X L Y H s)
namespace Ev
noncomputable def cU:Fx:=⟨2,4,[(.ite (.ix ⇑0 ↥1) [(.set 2 (.bin .Mod (.ix ⇑0 ↥0) ⇑1)),(.item 0 ↥0 (.bin .FloorDiv (.ix ⇑0 ↥0) ⇑1)),(.ret ⇑2)] []),(.item 0 ↥0 (.bin .Mod (.bin .Add (.bin .Mult (.ix ⇑0 ↥0) ↥48271) ↥29) ↥2147483647)),(.set 3 (.bin .Mod (.bin .Add (.bin .Add (.bin .Mult (.ix ⇑0 ↥0) (.ix ⇑0 ↥0)) (.bin .Mult ↥39373 (.ix ⇑0 ↥0))) ↥7) ↥2147483629)),(.set 3 (.bin .Mod (.bin .Add (.bin .Mult ⇑3 ⇑3) (.bin .Mult ↥16807 ⇑3)) ↥2147483587)),(.ret (.bin .Mod (.bin .FloorDiv ⇑3 ↥8) ⇑1))]⟩
noncomputable def nJ(ti:Nat):Fx:=⟨2,4,[(.set 2 (.blt .list [⇑1])),(.set 3 (.lst [])),(.while (.cmp .NotEq ⇑2 (.lst [])) [(.expr (.append 3 (.ig 2 (.call ti [⇑0,(.blt .len [⇑2])]))))]),(.ret ⇑3)]⟩
noncomputable def mW(ti mi:Nat):Fx:=⟨2,5,[(.set 2 (.call mi [⇑0,(.cT ⇑1)])),(.ite (.cmp .Gt (.call ti [⇑0,↥3]) ↥0) [(.ret (.blt .tuple [⇑2]))] []),(.set 3 (.cT ⇑1)),(.loop (.nm 4) (.nG ↥0 (.bin .Sub ⇑1 ↥1) ↥2) [(.ite (.cmp .Eq (.call ti [⇑0,↥2]) ↥1) [(.items2 3 (.ix ⇑2 ⇑4) 3 (.ix ⇑2 (.bin .Add ⇑4 ↥1)) (.tup [(.ix ⇑2 (.bin .Add ⇑4 ↥1)),(.ix ⇑2 ⇑4)]))] [])]),(.ret (.blt .tuple [⇑3]))]⟩
def pX:Fx:=⟨2,2,[(.ite (.cmp .Lt ⇑1 (.blt .len [⇑0])) [(.ret (.ix ⇑0 ⇑1))] []),(.ret ↥0)]⟩
noncomputable def pY(ci:Nat):Fx:=⟨2,3,[(.set 2 (.call ci [⇑0,⇑1])),(.ite (.cmp .GtE ⇑2 (.bin .Pow ↥10 ↥18)) [(.ret (.lst [(.bin .Sub ⇑2 (.bin .Pow ↥10 ↥18)),(.val (.bl true))]))] []),(.ret (.lst [(.bin .Mod ⇑2 ↥2147483647),(.val (.bl false))]))]⟩
def Tn(m:Nat)(t: ~~~0):Prop:=bh t=(List.range m).map λ(k:Nat)=>(k:Int)
theorem Tn.length{m:Nat}{t: ~~~0}(h:Tn m t):t.length=m:=by have:=(bL t).length_eq;rw[h]at this;simpa using this.symm
theorem Tn.mem{m:Nat}{t: ~~~0}(h:Tn m t){x:Int}:x∈t ↔ 0<=x/\x<m:=by
 rw[<- (bL t).mem_iff,h,fR];constructor
 . rintro⟨k,hk,rfl⟩;have:=mI.mp hk;lia
 . rintro⟨h1,h2⟩;exact⟨x.toNat,mI.mpr ⋯,by lia⟩
theorem Tn.of{m:Nat}{t: ~~~0}(h:t.Perm ((List.range m).map λ(k:Nat)=>(k:Int))):Tn m t:=by refine (jE h.symm ?_).symm;rw[List.pairwise_map];exact List.pairwise_lt_range.imp λh=>by lia
theorem Tn.perm{m:Nat}{t: ~~~0}(h:Tn m t):t.Perm ((List.range m).map λ(k:Nat)=>(k:Int)):=by rw[<- h];exact (bL t).symm
noncomputable def gt(t: ~~~0)(i:Int):Int:=t.getD i.toNat 0
theorem cM{t: ~~~0}{i:Int}(h:0<=i/\i<t.length):L2.eU (t.map D.int) i=some (.int (gt t i)):=by
 obtain⟨n,rfl⟩:∃n:Nat,i=n:=⟨i.toNat,by lia⟩
 rw[wH t n ⋯];simp[gt,(by lia:n<t.length)]
noncomputable def nums(m:Nat): ~~~0:=(List.range m).map λ(k:Nat)=>(k:Int)
theorem cN{m:Nat}{x:Int}:x∈nums m ↔ 0<=x/\x<m:=by
 unfold nums;rw[fR];constructor
 . rintro⟨k,hk,rfl⟩;have:=mI.mp hk;lia
 . rintro⟨h1,h2⟩;exact⟨x.toNat,mI.mpr ⋯,by lia⟩
theorem gU(m:Nat):(nums m).length=m:=by simp[nums]
theorem Tn.uq{m:Nat}{t: ~~~0}(h:Tn m t){i:Int}(hi:0<=i/\i<m):0<=gt t i/\gt t i<m:=by
 refine h.mem.mp ?_;have hl:=h.length;have:i.toNat<t.length:=by lia
 unfold gt;rw[gN,mB this];exact CH _
theorem Tn.nodup{m:Nat}{t: ~~~0}(h:Tn m t):t.Nodup:=by refine (h.perm.nodup_iff).mpr ?_;rw[BA,List.pairwise_map];exact List.nodup_range.imp λh=>by lia
theorem Tn.inj{m:Nat}{t: ~~~0}(h:Tn m t){i j:Int}(hi:0<=i/\i<m)(hj:0<=j/\j<m)(e:gt t i=gt t j):i=j:=by
 have hl:=h.length;have h1:i.toNat<t.length:=by lia
 have h2:j.toNat<t.length:=by lia
 unfold gt at e;rw[gN,mB h1,gN,mB h2]at e;have:=(List.getElem_inj h.nodup).mp (show t[i.toNat]=t[j.toNat]from e)
 lia
theorem lP{α β:Type}{f:α->β}{l:List α}(h:l.Nodup)(hf:∀x∈l,∀y∈l,f x=f y->x=y):(l.map f).Nodup:=by
 induction l with
 |nil=>exact yY
 |cons a l ih=>
  obtain⟨h1,h2⟩:=hV.mp h;rw[List.map_cons];refine hV.mpr ⟨λhm=>?_,ih h2 λx hx y hy=>hf x (bP _ hx) y (bP _ hy)⟩
  obtain⟨b,hb,e⟩:=fR.mp hm;have:=hf b (bP _ hb) a c8 e;exact h1 (this▸hb)
noncomputable def ur(a:Int): ~~~0->List (~~~0)
 | []=>[[a]]
 |b::l=>(a::b::l)::(ur a l).map (b :: ·)
def eY: ~~~0->List (~~~0)
 | []=>[[]]
 |a::l=>(eY l).flatMap (ur a)
theorem pZ(a:Int):∀p1 p2:List Int,p1++a::p2∈ur a (p1++p2)
 | [],[]=>eP.mpr rfl
 | [],_::_=>c8
 |b::p1,p2=>by
  show b::(p1++a::p2)∈(a::b::(p1++p2))::(ur a (p1++p2)).map (b :: ·);exact bP _ (fR.mpr ⟨_,pZ a p1 p2,rfl⟩)
theorem mX:∀{l p: ~~~0},p.Perm l->p∈eY l
 | [],p,h=>by rw[List.Perm.eq_nil h];exact eP.mpr rfl
 |a::l,p,h=>by
  have ha:a∈p:=h.mem_iff.mpr c8;obtain⟨p1,p2,rfl⟩:=List.append_of_mem ha;have h2:(p1++p2).Perm l:=(List.perm_middle.symm.trans h).cons_inv;exact CL.mpr ⟨p1++p2,mX h2,pZ a p1 p2⟩
theorem uv(m:Nat):Tn m (nums m):=Tn.of (y0 _)
theorem Nc{m:Nat}{i:Int}(h:0<=i/\i<m):gt (nums m) i=i:=by
 have:i.toNat<m:=by lia
 unfold gt nums;simp[this];lia
theorem Ia{m:Nat}{b: ~~~0}(h:b.length=m):(nums m).map (gt b)=b:=by
 subst h;refine List.ext_getElem (by simp[nums]) λi h1 h2=>?_
 simp[nums,gt,h2]
theorem zX{α:Type}{l:List α}{p:α->Bool}(c k:Nat)(hc:0<c)(hl:l.length<=c * k)(h:∀i,i<k->(((l.drop (c * i)).take c).all p)=true):l.all p=true:=by
 refine eM.mpr λx hx=>?_
 obtain⟨j,hj,rfl⟩:=C6 hx;have hi:j / c<k:=Nat.div_lt_of_lt_mul (fA hj hl);refine eM.mp (h (j / c) hi) _ (l6 (i:=j % c) ?_);rw[pE (Nat.mod_lt _ hc),List.getElem?_drop,Nat.div_add_mod,mB hj]
theorem aB{rn:Rn}{bor:List Nat}{k:Nat}{st:Sm}{rest:List Sm}{g g1:G}(h:aK rn bor k st g=some (.nx,g1)):jr rn bor k (st::rest) g=jr rn bor k rest g1:=by
 conv=>lhs;unfold jr
 rw[h]
noncomputable abbrev St(s:Int)(fl:Bool):Slot:=.own [.int s,.bl fl]
theorem nY(a b:Int)(h:0<b):nI .Mod (.int a) (.int b)=some (.dat (.int (a % b))):=by simp[nI,kj,h]
theorem fZ(a b:Int)(h:0<b/\b<1073741824):nI .FloorDiv (.int a) (.int b)=some (.dat (.int (a / b))):=by simp[nI,kj,h]
theorem cR(a b:Int)(h:(-(2 ^ 64)<a/\a<2 ^ 64)\/(-(2 ^ 64)<b/\b<2 ^ 64)):nI .Mult (.int a) (.int b)=some (.dat (.int (a * b))):=by
 have:jI a b=true:=by unfold jI;simp only[sK,dE,dL];exact h
 simp[nI,LW,this]
section
variable{ti mi:Nat}(U:jt fns rn)(hT:fns[ti]?=some cU)
include U
theorem Ub(s:Int)(fl:Bool)(m:Int)(hm:0<m/\m<1000):∃r s' s2 s3,0<=r/\r<m/\(rn (n+20)).b [0] k cU.body [St s fl,‹m›,.no,.no]=some (.rt ‹r›,[St s' fl,‹m›,s2,s3]):=by
 have i0:L2.eU [D.int s,D.bl fl] 0=some (.int s):=rfl;have i1:L2.eU [D.int s,D.bl fl] 1=some (.bl fl):=rfl;have x0':L2.nk 2 0=some 0:=rfl;cases fl with
 |true=>refine⟨s % m,s / m,.dat (.int (s % m)),.no,C8 _ ⋯,BY _ hm.1,?_⟩;unfold cU;simp! [U,i0,i1,x0',nY _ _ hm.1,fZ _ _ (show 0<m/\m<1073741824 by lia)]
 |false=>
  generalize hs1:(s * 48271+29) % 2147483647=s1;have h1:0<=s1/\s1<2147483647:=by rw[<- hs1];exact⟨C8 _ ⋯,BY _ ⋯⟩
  have j0:L2.eU [D.int s1,D.bl false] 0=some (.int s1):=rfl;generalize hs2:(s1 * s1+39373 * s1+7) % 2147483629=s2;have h2:0<=s2/\s2<2147483629:=by rw[<- hs2];exact⟨C8 _ ⋯,BY _ ⋯⟩
  generalize hs3:(s2 * s2+16807 * s2) % 2147483587=s3;refine⟨s3 / 8 % m,s1,.no,‹s3›,C8 _ ⋯,BY _ hm.1,?_⟩;unfold cU;simp! [U,i0,i1,x0',nY,cR s 48271 (.inr ⋯),hs1,j0,cR s1 s1 (.inl ⋯),cR 39373 s1 (.inl ⋯),hs2,cR s2 s2 (.inl ⋯),cR 16807 s2 (.inl ⋯),hs3,fZ _ _ (show (0:Int)<8/\(8:Int)<1073741824 by decide),hm.1]
theorem gf{i:Nat}{s:Int}{fl:Bool}{m:Int}(hi:g[i]?=some (St s fl))(hm:0<m/\m<1000):∃r s',0<=r/\r<m/\bG (rn (n+20)) cU k [.var i,‹m›] g=some (‹r›,g.set i (St s' fl)):=by
 obtain⟨r,s',s2,s3,h1,h2,h⟩:=Ub U (n:=n) (k:=k) s fl m hm;refine⟨r,s',h1,h2,?_⟩;have hp:gn cU.n [St s fl,‹m›]=[St s fl,‹m›,.no,.no]:=rfl;unfold bG;simp only[vars,eu,hi,List.map_cons,List.map_nil];rw[fN ⟨rfl,by simp⟩,hp,h]
 rfl
omit U in
theorem Ib(a: ~~~0):fT .NotEq (.lst (a.map .int)) (.lst [])=some (!decide (a=[])):=yO a []
omit U in
theorem yP{l i:Nat}(h:i<l):L2.nk l (i:Int)=some i:=by unfold L2.nk;rw[fN ⋯,fN ⋯];simp
omit U in
theorem rP:∀(l: ~~~0) (j:Nat),(l.map D.int).eraseIdx j=(l.eraseIdx j).map .int
 | [],_=>rfl
 |_::_,0=>rfl
 |a::l,j+1=>by simp[rP l j]
omit U in
theorem wI:∀(l: ~~~0) (j:Nat) (h:j<l.length),([l[j]]++l.eraseIdx j).Perm l
 |a::l,0,_=>y0 _
 |a::l,j+1,h=>(List.Perm.swap a _ _).trans ((wI l j (by simpa using h)).cons a)
include hT in
theorem Ic{i:Nat}{s:Int}{fl:Bool}(th: ~~~0)(hi:g[i]?=some (St s fl))(hl:th.length<=10):∃(row: ~~~0) (s':Int),row.Perm th/\bG (rn (n+50)) (nJ ti) (k+1) [.var i,.dat (.lst (th.map .int))] g=some (.new (row.map .int),g.set i (St s' fl)):=by
 have loop:=zV (c:=(rn (n+49)).t [0] (k+1) (.cmp .NotEq ⇑2 (.lst []))) (b:=(rn (n+49)).b [0] (k+1) [(.expr (.append 3 (.ig 2 (.call ti [⇑0,(.blt .len [⇑2])]))))])
  (I:=λm g=>∃(s:Int) (cu fQ: ~~~0),cu.length=m/\(fQ++cu).Perm th/\g=[St s fl,.dat (.lst (th.map .int)),.own (cu.map .int),.own (fQ.map .int)])
  (step:=λm g h=>by
   obtain⟨s,cu,fQ,h1,h2,rfl⟩:=h;have aL:=h2.length_eq;rw[eC]at aL;obtain⟨r,s',q1,q2,q3⟩:=gf U (n:=n+25) (k:=k) (g:=[St s fl,.dat (.lst (th.map .int)),.own (cu.map .int),.own (fQ.map .int)]) (i:=0) (s:=s) (fl:=fl) (m:=(cu.length:Int)) rfl ⋯;obtain⟨j,rfl⟩:∃j:Nat,r=j:=⟨r.toNat,by lia⟩
   have hj:j<cu.length:=by lia
   have e1:(cu.map D.int)[j]?=some (.int cu[j]):=by simp[hj]
   have e2:(cu.map D.int).eraseIdx j=(cu.eraseIdx j).map .int:=rP cu j;have z1:cu.length<lim:=fA (mE _) (au (cu.length+1) ⋯);have z2:fQ.length<lim:=fA (mE _) (au (fQ.length+1) ⋯);have g7:cu≠[]:=λe=>by rw[e]at hj;exact absurd hj (A6 _)
   refine⟨[St s fl,.dat (.lst (th.map .int)),.own (cu.map .int),.own (fQ.map .int)],[St s' fl,.dat (.lst (th.map .int)),.own ((cu.eraseIdx j).map .int),.own ((fQ++[cu[j]]).map .int)],by simp! [U,Ib,g7],?_,s',cu.eraseIdx j,fQ++[cu[j]],?_,?_,rfl⟩
   . have RD:bG (rn (n+45)) cU k [.var 0,.dat (.int (cu.length:Int))] [St s fl,.dat (.lst (th.map .int)),.own (cu.map .int),.own (fQ.map .int)]=some (‹j›,[St s' fl,.dat (.lst (th.map .int)),.own (cu.map .int),.own (fQ.map .int)]):=q3;simp! [U,hT,RD,yP hj,e1,e2,z1,z2];simp
   . rw[List.length_eraseIdx_of_lt hj];lia
   .
    refine List.Perm.trans ?_ h2;rw[wE];refine List.Perm.append_left _ ?_;exact wI cu j hj)
  (fin:=λg h=>by
   obtain⟨s,cu,fQ,h1,h2,rfl⟩:=h;have:cu=[]:=List.eq_nil_of_length_eq_zero h1;simp! [U,Ib,this])
 obtain⟨g',⟨s',cu,fQ,q1,q2,rfl⟩,q3⟩:=loop th.length 100000 [St s fl,.dat (.lst (th.map .int)),.own (th.map .int),.own []] ⋯ ⟨s,th,[],rfl,by simp,rfl⟩
 have hnil:cu=[]:=List.eq_nil_of_length_eq_zero q1;subst hnil;rw[n0]at q2;refine⟨fQ,s',q2,?_⟩;have hp:gn (nJ ti).n [St s fl,.dat (.lst (th.map .int))]=[St s fl,.dat (.lst (th.map .int)),.no,.no]:=rfl;have body:(rn (n+50)).b [0] (k+1) (nJ ti).body [St s fl,.dat (.lst (th.map .int)),.no,.no]=some (.rt (.var 3),[St s' fl,.dat (.lst (th.map .int)),.own [],.own (fQ.map .int)]):=by unfold nJ;simp! [U,q3]
 unfold bG;simp only[vars,eu,hi,List.map_cons,List.map_nil];rw[fN ⟨rfl,by simp⟩,hp,body]
 rfl
omit U in
theorem Nf{m:Nat}{f: ~~~0}(h:Tn m f){p q:Int}(hp:0<=p/\p<m)(hq:0<=q/\q<m)(g7:p≠q)(e1:gt f p=p)(e2:gt f q=q) :
  Tn m ((f.set p.toNat q).set q.toNat p)/\∀x:Int,0<=x/\x<m->x≠p->x≠q->gt ((f.set p.toNat q).set q.toNat p) x=gt f x:=by
 have hl:=h.length;have hget:∀x:Int,0<=x/\x<m->gt ((f.set p.toNat q).set q.toNat p) x=if x=q then p else if x=p then q else gt f x:=λx hx=>by
  have hx':x.toNat<f.length:=by lia
  unfold gt;rw[gN,List.getElem?_set,List.getElem?_set];by_cases Pb:x=q
  . subst Pb;simp[hx']
  .
   have n1:q.toNat≠x.toNat:=by lia
   rw[hU n1,hU Pb];by_cases Uc:x=p
   . subst Uc;simp[hx']
   .
    have n2:p.toNat≠x.toNat:=by lia
    rw[hU n2,hU Uc,gN]
 refine⟨?_,λx hx n1 n2=>by rw[hget x hx,hU n2,hU n1]⟩
 have aL:((f.set p.toNat q).set q.toNat p).length=m:=by simp[hl]
 have em:((f.set p.toNat q).set q.toNat p)=(nums m).map (gt ((f.set p.toNat q).set q.toNat p)):=(Ia aL).symm;have ex:∀x∈nums m,gt ((f.set p.toNat q).set q.toNat p) x=(λy:Int=>if y=p then q else if y=q then p else y) (gt f x):=λx hx=>by
  have hx':=cN.mp hx;rw[hget x hx'];dsimp only;by_cases Pb:x=q
  . rw[fN Pb,Pb,e2,hU (oQ g7),fN rfl]
  .
   by_cases Uc:x=p
   . rw[hU Pb,fN Uc,Uc,e1,fN rfl]
   .
    have a1:gt f x≠p:=λz=>Uc (h.inj hx' hp (z.trans e1.symm))
    have a2:gt f x≠q:=λz=>Pb (h.inj hx' hq (z.trans e2.symm))
    rw[hU Pb,hU Uc,hU a1,hU a2]
 rw[em,mN ex];have e3:(nums m).map (λx=>(λy:Int=>if y=p then q else if y=q then p else y) (gt f x))=f.map λy:Int=>if y=p then q else if y=q then p else y:=by
  conv=>rhs;rw[<- Ia hl,List.map_map]
  rfl
 rw[e3];refine Tn.of ?_;refine (h.perm.map _).trans ?_;have inj:∀x y:Int,(if x=p then q else if x=q then p else x)=(if y=p then q else if y=q then p else y)->x=y:=λx y z=>by
  split at z <;> split at z <;> (try split at z) <;> (try split at z) <;> lia
 refine (BB (lP (uv m).nodup λx _ y _ z=>inj x y z) (uv m).nodup).mpr λx=>?_
 rw[fR];constructor
 .
  rintro⟨y,hy,rfl⟩;have:=cN.mp hy;refine cN.mpr ?_;split
  . exact hq
  .
   split
   . exact hp
   . exact this
 .
  intro hx;have hx':=cN.mp hx;refine⟨if x=p then q else if x=q then p else x,cN.mpr ?_,?_⟩
  .
   split
   . exact hq
   .
    split
    . exact hp
    . exact hx'
  .
   by_cases z1:x=p
   . rw[fN z1,hU (oQ g7),fN rfl];exact z1.symm
   .
    by_cases z2:x=q
    . rw[hU z1,fN z2,fN rfl];exact z2.symm
    . rw[hU z1,hU z2,hU z1,hU z2]
end
section
variable{ti mi:Nat}(U:jt fns rn)(hT:fns[ti]?=some cU)(hM:fns[mi]?=some (nJ ti))
include U hT hM
theorem Ng{i:Nat}{s:Int}{fl:Bool}(m:Nat)(hm:1<=m/\m<=6)(hi:g[i]?=some (St s fl)):∃(t: ~~~0) (s':Int),Tn m t/\bG (rn (n+80)) (mW ti mi) (k+2) [.var i,‹m›] g=some (.dat (~~~t),g.set i (St s' fl)):=by
 have hr:bK 0 m=(nums m).map .int:=iS m;have hl:=gU m;obtain⟨row,s1,wJ,q1⟩:=Ic U hT (n:=n+28) (k:=k) (g:=[St s fl,‹m›,.no,.no,.no]) (i:=0) (s:=s) (fl:=fl) (nums m) rfl ⋯;have hR:Tn m row:=Tn.of wJ;have hRl:=hR.length;have Dw:bG (rn (n+78)) (nJ ti) (k+1) [.var 0,.dat (.lst ((nums m).map .int))] [St s fl,‹m›,.no,.no,.no]=some (.new (row.map .int),[St s1 fl,‹m›,.no,.no,.no]):=q1;have dH:aK (rn (n+79)) [0] (k+2) (.set 2 (.call mi [⇑0,(.cT ⇑1)])) [St s fl,‹m›,.no,.no,.no]=some (.nx,[St s1 fl,‹m›,.own (row.map .int),.no,.no]):=by simp! [U,hM,Dw,aD m ⋯,au m ⋯,hr]
 obtain⟨r,s2,r1,r2,q2⟩:=gf U (n:=n+57) (k:=k+1) (g:=[St s1 fl,‹m›,.own (row.map .int),.no,.no]) (i:=0) (s:=s1) (fl:=fl) (m:=3) rfl ⋯;have FJ:bG (rn (n+77)) cU (k+1) [.var 0,‹3›] [St s1 fl,‹m›,.own (row.map .int),.no,.no]=some (‹r›,[St s2 fl,‹m›,.own (row.map .int),.no,.no]):=q2;have hp:gn (mW ti mi).n [St s fl,‹m›]=[St s fl,‹m›,.no,.no,.no]:=rfl;have fin:∀(t: ~~~0) (s':Int) (a b c:Slot),Tn m t->(rn (n+80)).b [0] (k+2) (mW ti mi).body [St s fl,‹m›,.no,.no,.no]=some (.rt (.dat (~~~t)),[St s' fl,‹m›,a,b,c])->∃(t: ~~~0) (s':Int),Tn m t/\bG (rn (n+80)) (mW ti mi) (k+2) [.var i,‹m›] g=some (.dat (~~~t),g.set i (St s' fl)):=λt s' a b c ht hb=>by
  refine⟨t,s',ht,?_⟩;unfold bG;simp only[vars,eu,hi,List.map_cons,List.map_nil];rw[fN ⟨rfl,by simp⟩,hp,hb]
  rfl
 by_cases hr0:r > 0
 . refine fin row s2 (.own (row.map .int)) .no .no hR ?_;unfold mW;rw[U.b];rw[aB dH];simp! [U,hT,FJ,hr0]
 .
  have aN:aK (rn (n+79)) [0] (k+2) (.ite (.cmp .Gt (.call ti [⇑0,↥3]) ↥0) [(.ret (.blt .tuple [⇑2]))] []) [St s1 fl,‹m›,.own (row.map .int),.no,.no]=some (.nx,[St s2 fl,‹m›,.own (row.map .int),.no,.no]):=by simp! [U,hT,FJ,hr0]
  have eK:aK (rn (n+79)) [0] (k+2) (.set 3 (.cT ⇑1)) [St s2 fl,‹m›,.own (row.map .int),.no,.no]=some (.nx,[St s2 fl,‹m›,.own (row.map .int),.own ((nums m).map .int),.no]):=by simp! [U,aD m ⋯,au m ⋯,hr]
  generalize hN:lG 0 ((m:Int) - 1) 2=N;have R7:∀j,j<N->2 * j+1<m:=λj hj=>by
   rw[<- hN]at hj;unfold lG at hj;split at hj
   . lia
   . lia
  have loop:=cQ (T:=.nm 4) (b:=(rn (n+79)).b [0] (k+2) [(.ite (.cmp .Eq (.call ti [⇑0,↥2]) ↥1) [(.items2 3 (.ix ⇑2 ⇑4) 3 (.ix ⇑2 (.bin .Add ⇑4 ↥1)) (.tup [(.ix ⇑2 (.bin .Add ⇑4 ↥1)),(.ix ⇑2 ⇑4)]))] [])]) (λ(j:Nat)=>D.int ((j:Int) * 2))
   (I:=λl g=>∃(j:Nat) (s:Int) (f: ~~~0) (s4:Slot),l=List.range' j (N - j)/\Tn m f/\(∀p:Nat,2 * j<=p->p<m->gt f (gt row p)=gt row p)/\g=[St s fl,‹m›,.own (row.map .int),.own (f.map .int),s4])
   (step:=λa l g h=>by
    obtain⟨j,s,f,s4,h1,h2,h3,rfl⟩:=h;have hjN:j<N:=by
     rcases v6 j N with h |h
     . exact h
     . rw[A9 h]at h1;cases h1
    have hc:List.range' j (N - j)=j::List.range' (j+1) (N - (j+1)):=by rw[show N - j=(N - (j+1))+1 by lia,AC]
    rw[hc]at h1;injection h1 with e1 e2;subst e1 e2;have hj2:=R7 a hjN;obtain⟨z,hz⟩:∃z:Int,z=(a:Int) * 2:=⟨_,rfl⟩;rw[<- hz];obtain⟨r,s',r1,r2,q⟩:=gf U (n:=n+56) (k:=k+1) (g:=[St s fl,‹m›,.own (row.map .int),.own (f.map .int),‹z›]) (i:=0) (s:=s) (fl:=fl) (m:=2) rfl ⋯;have q':bG (rn (n+76)) cU (k+1) [.var 0,‹2›] [St s fl,‹m›,.own (row.map .int),.own (f.map .int),‹z›]=some (‹r›,[St s' fl,‹m›,.own (row.map .int),.own (f.map .int),‹z›]):=q;by_cases hr1:r=1
    .
     have hfl:=h2.length;have p1:=hR.uq (i:=((2 * a:Nat):Int)) ⋯;have p2:=hR.uq (i:=((2 * a+1:Nat):Int)) ⋯;have g7:gt row ((2 * a:Nat):Int)≠gt row ((2 * a+1:Nat):Int):=λz=>by have:=hR.inj ⋯ ⋯ z;lia
     obtain⟨x1,x2⟩:=Nf h2 p1 p2 g7 (h3 (2 * a) ⋯ ⋯) (h3 (2 * a+1) ⋯ ⋯);have a1:L2.eU (row.map D.int) z=some (.int (gt row ((2 * a:Nat):Int))):=by rw[hz,show (a:Int) * 2=((2 * a:Nat):Int)by lia];exact cM ⋯
     have a2:L2.eU (row.map D.int) (z+1)=some (.int (gt row ((2 * a+1:Nat):Int))):=by rw[hz,show (a:Int) * 2+1=((2 * a+1:Nat):Int)by lia];exact cM ⋯
     have n1:∀p:Nat,2 * (a+1)<=p->p<m->gt row p≠gt row ((2 * a:Nat):Int)/\gt row p≠gt row ((2 * a+1:Nat):Int):=λp h1 h2=>⟨λz=>by have:=hR.inj ⋯ ⋯ z;lia,λz=>by have:=hR.inj ⋯ ⋯ z;lia⟩
     generalize gt row ((2 * a:Nat):Int)=p at p1 g7 x1 x2 a1 n1;generalize gt row ((2 * a+1:Nat):Int)=q at p2 g7 x1 x2 a2 n1;obtain⟨pn,rfl⟩:∃pn:Nat,p=pn:=⟨p.toNat,by lia⟩
     obtain⟨qn,rfl⟩:∃qn:Nat,q=qn:=⟨q.toNat,by lia⟩
     refine⟨[St s fl,‹m›,.own (row.map .int),.own (f.map .int),‹z›],[St s' fl,‹m›,.own (row.map .int),.own (((f.set pn qn).set qn pn).map .int),‹z›],rfl,?_,a+1,s',_,_,rfl,(by simpa only[o6]using x1),?_,rfl⟩
     . have l1:L2.nk f.length (pn:Int)=some pn:=yP ⋯;have l2:L2.nk f.length (qn:Int)=some qn:=yP ⋯;simp! [U,hT,q',hr1,a1,a2,l1,l2,au 2 ⋯]
     . intro p hp1 hp2;have hx:=n1 p hp1 hp2;have hg:=x2 (gt row p) (hR.uq ⋯) hx.1 hx.2;simp only[o6]at hg;rw[hg];exact h3 p ⋯ hp2
    .
     refine⟨[St s fl,‹m›,.own (row.map .int),.own (f.map .int),‹z›],[St s' fl,‹m›,.own (row.map .int),.own (f.map .int),‹z›],rfl,?_,a+1,s',f,_,rfl,h2,λp hp=>h3 p ⋯,rfl⟩
     simp! [U,hT,q',hr1])
  obtain⟨g',⟨j,s3,f,s4,w1,w2,w3,rfl⟩,w4⟩:=loop (List.range' 0 N) [St s2 fl,‹m›,.own (row.map .int),.own ((nums m).map .int),.no] ⟨0,s2,nums m,.no,rfl,uv m,λp _ hp=>Nc (hR.uq ⋯),rfl⟩
  refine fin f s3 (.own (row.map .int)) (.own (f.map .int)) s4 w2 ?_;have sd:qH 0 2 N=(List.range' 0 N).map λ(j:Nat)=>D.int ((j:Int) * 2):=by unfold qH;rw[u7];exact mN λj _=>by rw[CD]
  have o1:vZ ((m:Int) - 1)=true:=by unfold vZ;simp;lia
  have o2:vZ 0=true:=rfl;have o3:vZ 2=true:=rfl;unfold mW;rw[U.b,aB dH,aB aN,aB eK];simp! [U,Tg.ix,Tg.eT,cD,o1,o2,o3,hN,sd,w4]
end
section
variable{ci:Nat}(U:jt fns rn)(hC:fns[ci]?=some pX)
include U hC
omit U hC in
theorem sJ:nI .Pow (.int 10) (.int 18)=some (.dat (.int (10 ^ 18))):=by rfl
theorem Ie(ns: ~~~0)(hl:ns.length<=1000)(j:Nat):∃(s:Int) (fl:Bool),aQ (rn (n+40)) (k+1) (pY ci) [.fix (ns.map .int),.int j]=some (.new [.int s,.bl fl]):=by
 obtain⟨v,q⟩:∃v:Int,∀n,aQ (rn (n+20)) k pX [.fix (ns.map .int),.int j]=some ‹v›:=by
  by_cases h:j<ns.length
  .
   refine⟨ns[j],λn=>?_⟩
   have h':(j:Int)<ns.length:=by lia
   have:=wH ns j h;unfold aQ pX;simp! [U,pS,h',this]
  .
   refine⟨0,λn=>?_⟩
   have h' : ¬ (j:Int)<ns.length:=by lia
   unfold aQ pX;simp! [U,pS,h']
 by_cases hv:(1000000000000000000:Int)<=v
 . refine⟨v - 1000000000000000000,true,?_⟩;unfold aQ pY;simp! [U,hC,aE (fx:=pX) rfl,q,sJ,hv,au 2 ⋯]
 . refine⟨v % 2147483647,false,?_⟩;unfold aQ pY;simp! [U,hC,aE (fx:=pX) rfl,q,sJ,hv,au 2 ⋯,nY]
end
noncomputable def bM:Fx:=⟨1,1,[(.ret (.and [(.pB ⇑0 "int"),(.not (.pB ⇑0 "bool"))]))]⟩
noncomputable def bH(w:Nat):Fx:=⟨3,3,[(.ret (.and [(.call w [⇑0]),(.chain ⇑1 [.LtE,.LtE] [⇑0,⇑2])]))]⟩
def isInt:D->Bool
 |.int _=>true
 |_=>false
noncomputable def yQ(lo hi:Int):D->Bool
 |.int i=>decide (lo<=i/\i<=hi)
 |_=>false
def Ig(m:Nat):D->Bool
 |.tup l=>match aR l with
  |some t=>decide (bh t=nums m)
  |none=>false
 |_=>false
def Nh:D->Prop
 |.tup l=>l.length<=20/\∀x∈l,iZ x=true/\dep x<=5
 |_=>True
theorem lQ:∀{l:List D},l.all isInt=true->∃t:List Int,l=t.map .int
 | [],_=>⟨[],rfl⟩
 |d::l,h=>by
  rw[List.all_cons,dE]at h;obtain⟨t,rfl⟩:=lQ h.2;cases d with
  |int i=>exact⟨i::t,rfl⟩
  |_=>cases h.1
theorem wK:∀{l:List D},l.all isInt=false->aR l=none
 | [],h=>by symm
 |d::l,h=>by
  cases d with
  |int i=>
   have:l.all isInt=false:=by simpa [isInt]using h
   show (match aR l with |some ns=>some (i::ns) |none=>none)=none
   rw[wK this]
  |_=>rfl
theorem wL:∀{l:List D},(∀x∈l,iZ x=true)->fS l=true
 | [],_=>rfl
 |d::l,h=>by
  show (iZ d&&fS l)=true;rw[h d c8,wL λx hx=>h x (bP _ hx)]
  rfl
theorem wM{c:Nat}:∀{l:List D},(∀x∈l,dep x<=c)->deps l<=c
 | [],_=>wP _
 |d::l,h=>by
  have h1:=h d c8;have h2:=wM λx hx=>h x (bP _ hx)
  show max (dep d) (deps l)<=c;lia
section
variable{w wi mw it ci cj:Nat}(U:jt fns rn)
include U
theorem fJ(d:D):aQ (rn (n+6)) k bM [d]=some (.dat (.bl (isInt d))):=by unfold aQ bM;cases d <;> simp! [U,tR,vn,isInt]
variable(hW:fns[w]?=some bM)
include hW
theorem ji(d:D)(lo hi:Int):aQ (rn (n+14)) (k+1) (bH w) [d,.int lo,.int hi]=some (.dat (.bl (yQ lo hi d))):=by
 unfold aQ bH;cases d with
 |int i=>
  by_cases h1:lo<=i
  .
   by_cases h2:i<=hi
   . simp! [U,hW,aJ (fx:=bM) rfl,fJ U,isInt,yQ,h1,h2]
   . simp! [U,hW,aJ (fx:=bM) rfl,fJ U,isInt,yQ,h1,h2]
  . simp! [U,hW,aJ (fx:=bM) rfl,fJ U,isInt,yQ,h1]
 |_=>simp! [U,hW,aJ (fx:=bM) rfl,fJ U,isInt,yQ]
end
noncomputable def cg(i ci:Nat):Fx:=⟨3,3,[(.ite (.not (.call i [⇑0,⇑1,⇑2])) [.stuck] [])]⟩
def cC(mw w:Nat):Fx:=⟨2,2,[(.expr (.call mw [⇑0,↥1,↥6])),(.ite (.or [(.not (.pB ⇑1 "tuple")),(.not (.blt .all [(.comp 2 2 (.nm 3) ⇑1 none (.call w [⇑3]))]))]) (~~~4) []),(.ret (.cmp .Eq (.blt .sorted [⇑1]) (.cT ⇑0)))]⟩
noncomputable def bB(it ci:Nat):Fx:=⟨2,2,[(.ite (.not (.call it [⇑0,⇑1])) [.stuck] [])]⟩
section
variable{k n:Nat}{g g1:G}{rn:Nat->Rn}{fns:List Fx}{w wi mw it ci cj:Nat}(U:jt fns rn)
include U
variable(hW:fns[w]?=some bM)
include hW
variable(hI:fns[wi]?=some (bH w))
include hI
theorem nZ(d:D)(lo hi:Int)(h:yQ lo hi d=true):aQ (rn (n+24)) (k+2) (cg wi ci) [d,.int lo,.int hi]=some (.dat .non):=by unfold aQ cg;simp! [U,hI,bz (fx:=bH w) rfl,ji U hW,h]
theorem zY(d:D)(lo hi:Int)(h:yQ lo hi d=true):zW (rn (n+24)) (k+2) (cg wi ci) [d,.int lo,.int hi]=none:=by unfold zW cg;simp! [U,hI,bz (fx:=bH w) rfl,ji U hW,h]
end
section
variable{k n:Nat}{g g1:G}{rn:Nat->Rn}{fns:List Fx}{w wi mw it ci cj:Nat}(U:jt fns rn)(hW:fns[w]?=some bM)
include U hW
theorem Ud{d0:D}(l:List D)(h:l.length<=lim):eV (rn (n+12)) [] (k+1) 2 2 (.nm 3) ⇑1 none (.call w [.slot 3]) [.dat d0,.dat (.tup l)]=some ((l.map isInt).map .bl,[.dat d0,.dat (.tup l)]):=by
 rw[List.map_map];have:=eW (rn:=rn (n+12)) (bor:=[]) (k:=k+1) (g:=[.dat d0,.dat (.tup l)]) (g1:=[.dat d0,.dat (.tup l)]) (kk:=2) (nn:=2) (j:=3) (it:=.slot 1) (e:=.call w [.slot 3]) l id (λx=>.bl (isInt x)) (by simp! [U,cD]) rfl ⋯ ⋯ ⋯ h λa _ G' hG=>by
  have h2:=hG.2;simp only[id]at h2;simp! [U,h2,hW,aJ (fx:=bM) rfl,fJ U]
 exact this
omit U hW in
theorem Dd(l:List D):(l.map isInt).all id=l.all isInt:=by simp[Cs]
omit U hW in
theorem lR(m:Nat)(t: ~~~0):Ig m (~~~t)=decide (bh t=nums m):=by
 show (match aR (t.map .int)with |some t=>decide (bh t=nums m) |none=>false)=_
 rw[ints_map]
omit U hW in
theorem Ni(m:Nat){l:List D}(h:l.all isInt=false):Ig m (.tup l)=false:=by
 show (match aR l with |some t=>decide (bh t=nums m) |none=>false)=_
 rw[wK h]
variable(hI:fns[wi]?=some (bH w))(hM:fns[mw]?=some (cg wi ci))
include hI hM
theorem Ih(m:Nat)(hm:1<=m/\m<=6)(d:D)(hd:tR (vn d) "tuple"=false):aQ (rn (n+40)) (k+4) (cC mw w) [.int m,d]=some (.dat (.bl false))/\zW (rn (n+40)) (k+4) (cC mw w) [.int m,d]=none:=by
 have hi:yQ 1 6 (.int m)=true:=by show decide ((1:Int)<=m/\(m:Int)<=6)=true;rw[dL];lia
 have mu:=λn k=>nZ U hW hI (n:=n) (k:=k) (ci:=ci) (.int m) 1 6 hi
 have mx:=λn k=>zY U hW hI (n:=n) (k:=k) (ci:=ci) (.int m) 1 6 hi
 unfold aQ zW cC;constructor
 . simp! [U,hM,bz (fx:=cg wi ci) rfl,mu,hd]
 . simp! [U,hM,bz (fx:=cg wi ci) rfl,mu,mx,hd]
theorem lT(m:Nat)(hm:1<=m/\m<=6)(d:D)(hd:Nh d):aQ (rn (n+40)) (k+4) (cC mw w) [.int m,d]=some (.dat (.bl (Ig m d)))/\zW (rn (n+40)) (k+4) (cC mw w) [.int m,d]=none:=by
 have hi:yQ 1 6 (.int m)=true:=by show decide ((1:Int)<=m/\(m:Int)<=6)=true;rw[dL];lia
 have mu:=λn k=>nZ U hW hI (n:=n) (k:=k) (ci:=ci) (.int m) 1 6 hi
 have mx:=λn k=>zY U hW hI (n:=n) (k:=k) (ci:=ci) (.int m) 1 6 hi
 cases d with
 |tup l=>
  obtain⟨h1,h2⟩:=hd;have o:=λn k=>Ud U hW (n:=n) (k:=k) (d0:=.int m) l (au _ ⋯)
  have ha:=Dd l;cases e:l.all isInt with
  |true=>
   rw[e]at ha;obtain⟨t,rfl⟩:=lQ e;have hl:t.length<64:=by have:=eA (as:=t) D.int;lia
   have hr:bK 0 m=(nums m).map .int:=iS m;rw[lR];unfold aQ zW cC;constructor
   . simp! [U,hM,bz (fx:=cg wi ci) rfl,mu,o,pU,ha,mV t hl,aD m ⋯,au m ⋯,hr]
   . simp! [U,hM,bz (fx:=cg wi ci) rfl,mu,mx,o,pU,ha,mV t hl,aD m ⋯,au m ⋯,hr]
  |false=>
   rw[e]at ha;rw[Ni m e];unfold aQ zW cC;constructor
   . simp! [U,hM,bz (fx:=cg wi ci) rfl,mu,o,pU,ha]
   . simp! [U,hM,bz (fx:=cg wi ci) rfl,mu,mx,o,pU,ha]
 |_=>exact Ih U hW hI hM m hm _ rfl
variable(hT:fns[it]?=some (cC mw w))
include hT
end
theorem uw(l m:List D)(h:l.length+m.length<=1000):nI .Add (.lst l) (.lst m)=some (.new (l++m)):=by
 show (if l.length+m.length<=lim then _ else _)=_
 rw[fN (au _ h)]
def Pl(x:D):Prop:=iZ x=true/\dep x<=5
theorem Pl.int(i:Int):Pl (.int i):=⟨rfl,wP _⟩
theorem Pl.ints{t: ~~~0}{x:D}(h:x∈t.map D.int):Pl x:=by obtain⟨i,_,rfl⟩:=fR.mp h;exact .int i
def gB:Fx:=⟨2,3,[(.set 2 (.lst [⇑1])),(.while (.cmp .NotEq (.ix ⇑0 (.ix ⇑2 (.neg ↥1))) ⇑1) [(.expr (.append 2 (.ix ⇑0 (.ix ⇑2 (.neg ↥1)))))]),(.ret (.blt .tuple [⇑2]))]⟩
def gF(rf:Nat):Fx:=⟨2,3,[(.setC 2 (.comp 3 2 (.nm 4) ⇑1 none (.call rf [⇑0,⇑4]))),(.ret (.comp 3 2 (.nm 4) ⇑2 (some (.cmp .Eq (.ix ⇑4 ↥0) (.blt .min [⇑4]))) ⇑4))]⟩
noncomputable def kK(mt al:Nat):Fx:=⟨2,2,[(.expr (.call mt [⇑0,⇑1])),(.ret (.call al [⇑1,(.cT ⇑0)]))]⟩
def wN(ro:Nat):Fx:=⟨2,2,[(.ret (.blt .tuple [(.gR (.comp 2 2 (.nm 3) (.call ro [⇑0,⇑1]) none (.blt .len [⇑3])))]))]⟩
section
variable{k n:Nat}{g g1:G}{rn:Nat->Rn}{fns:List Fx}{w wi mw it ci cj mt rf al ro:Nat}(U:jt fns rn)
include U
def fK(l: ~~~0):Int:=l.getLastD 0
omit U in
theorem rQ{l: ~~~0}(h:l≠[]):fK l∈l:=by unfold fK;rw[List.getLastD_eq_getLast?,List.getLast?_eq_some_getLast h];exact List.getLast_mem h
omit U in
theorem wO(l: ~~~0)(h:l≠[]):L2.eU (l.map D.int) (-1)=some (.int (fK l)):=by
 obtain⟨a,x,rfl⟩:∃a x,l=a++[x]:=⟨l.dropLast,l.getLast h,(AX h).symm⟩;unfold L2.eU L2.nk fK;have hz:(List.map D.int (a++[x])).length=a.length+1:=by simp
 rw[hz,hU ⋯,fN ⋯,show (-1+((a.length+1:Nat):Int)).toNat=a.length by lia]
 simp
def zZ(t: ~~~0)(s:Int):Nat->~~~0->Option (~~~0)
 | 0,acc=>if gt t (fK acc)=s then some acc else none
 |f+1,acc=>if gt t (fK acc)=s then some acc else zZ t s f (acc++[gt t (fK acc)])
theorem Ue(m:Nat)(t: ~~~0)(hm:1<=m/\m<=6)(h:Tn m t)(s:Int)(r: ~~~0):∀(f N:Nat) (acc: ~~~0),f<N->acc≠[]->(∀x∈acc,0<=x/\x<m)->acc.length+f<=100->zZ t s f acc=some r->
  xB ((rn (n+12)).t [] k (.cmp .NotEq (.ix ⇑0 (.ix ⇑2 (.neg ↥1))) ⇑1)) ((rn (n+12)).b [] k [(.expr (.append 2 (.ix ⇑0 (.ix ⇑2 (.neg ↥1)))))]) N [.dat (~~~t),‹s›,.own (acc.map .int)]=some (.nx,[.dat (~~~t),‹s›,.own (r.map .int)]):=by
 have hl:=h.length;have test:∀acc:List Int,acc≠[]->(∀x∈acc,0<=x/\x<m)->(rn (n+12)).t [] k (.cmp .NotEq (.ix ⇑0 (.ix ⇑2 (.neg ↥1))) ⇑1) [.dat (~~~t),‹s›,.own (acc.map .int)]=some (!decide (gt t (fK acc)=s),[.dat (~~~t),‹s›,.own (acc.map .int)]):=λacc h1 h2=>by
  have hx:=h2 (fK acc) (rQ h1);simp! [U,wO acc h1,cM (t:=t) (i:=fK acc) ⋯]
 intro f
 induction f with
 |zero=>
  intro N acc hN h1 h2 h3 hr;obtain⟨N,rfl⟩:∃N',N=N'+1:=⟨N - 1,by lia⟩
  unfold zZ at hr;split at hr
  . rename_i e;cases hr;unfold xB;rw[test _ h1 h2];simp[e]
  . cases hr
 |succ f ih=>
  intro N acc hN h1 h2 h3 hr;obtain⟨N,rfl⟩:∃N',N=N'+1:=⟨N - 1,by lia⟩
  unfold zZ at hr;have hx:=h2 (fK acc) (rQ h1);split at hr
  . rename_i e;cases hr;unfold xB;rw[test _ h1 h2];simp[e]
  .
   rename_i e;unfold xB;rw[test acc h1 h2];simp only[e,decide_false,Bool.not_false];have hb:(rn (n+12)).b [] k [(.expr (.append 2 (.ix ⇑0 (.ix ⇑2 (.neg ↥1)))))] [.dat (~~~t),‹s›,.own (acc.map .int)]=some (.nx,[.dat (~~~t),‹s›,.own ((acc++[gt t (fK acc)]).map .int)]):=by have hlt:acc.length<lim:=fA (mE _) (au (acc.length+1) ⋯);simp! [U,wO acc h1,cM (t:=t) (i:=fK acc) ⋯,hlt];simp
   rw[hb];dsimp only;refine ih N (acc++[gt t (fK acc)]) ⋯ ⋯ (λx hx'=>?_) (by rw[eC,l5];lia) hr
   rcases AI.mp hx' with hx' |hx'
   . exact h2 x hx'
   .
    cases eP.mp hx';refine h.mem.mp ?_;unfold gt;have:(fK acc).toNat<t.length:=by lia
    rw[gN,mB this];exact CH _
theorem Ii(m:Nat)(t: ~~~0)(hm:1<=m/\m<=6)(h:Tn m t)(s:Int)(hs:0<=s/\s<m)(r: ~~~0)(hr:zZ t s 6 [s]=some r):aQ (rn (n+20)) k gB [~~~t,.int s]=some (.dat (~~~r)):=by
 have w:=λn k=>Ue U (n:=n) (k:=k) m t hm h s r 6 100000 [s] ⋯ ⋯ (by simpa using hs) ⋯ hr
 have e:List.map D.int [s]=[.int s]:=rfl;simp only[e]at w;unfold aQ gB;simp! [U,w,au 1 ⋯]
def DR(t: ~~~0)(s:Int): ~~~0:=(zZ t s 6 [s]).getD []
def Ij(r: ~~~0):Bool:=match r with
 | []=>false
 |n::l=>decide (n=iG n l)
def p7(m:Nat)(t: ~~~0): ~~~5:=((nums m).map (DR t)).filter Ij
def Ends(m:Nat)(t: ~~~0):Prop:=∀s:Int,0<=s/\s<m->(zZ t s 6 [s]).isSome=true/\DR t s≠[]
variable(hR:fns[rf]?=some gB)
include hR
theorem Ik(m:Nat)(t: ~~~0)(hm:1<=m/\m<=6)(h:Tn m t)(he:Ends m t):aQ (rn (n+40)) (k+1) (gF rf) [~~~t,.lst ((nums m).map .int)]=some (.new ((p7 m t).map λr=>~~~r)):=by
 have hl:=gU m;have w1:=λn k=>eW (rn:=rn (n+30)) (bor:=[]) (k:=k+1) (g:=[.dat (~~~t),.dat (.lst ((nums m).map .int)),.no]) (g1:=[.dat (~~~t),.dat (.lst ((nums m).map .int)),.no]) (kk:=2) (nn:=3) (j:=4) (it:=.slot 1) (e:=.call rf [⇑0,⇑4]) (nums m) .int (λs=>~~~(DR t s)) (by simp! [U,cD]) rfl ⋯ ⋯ ⋯ (au _ ⋯) λs hs G' hG=>by
  have h0:G'[0]?=some (.dat (~~~t)):=hG.1 0 ⋯;obtain⟨q1,q2⟩:=he s (cN.mp hs);have q3:zZ t s 6 [s]=some (DR t s):=by unfold DR;cases e:zZ t s 6 [s]with |none=>rw[e]at q1;cases q1 |some r=>rfl
  simp! [U,hG.2,h0,hR,aE (fx:=gB) rfl,Ii U m t hm h s (cN.mp hs) _ q3]
 have w2:=λn k=>rM (rn:=rn (n+30)) (bor:=[]) (k:=k+1) (g:=[.dat (~~~t),.dat (.lst ((nums m).map .int)),.own (((nums m).map (DR t)).map λr=>~~~r)]) (g1:=[.dat (~~~t),.dat (.lst ((nums m).map .int)),.dat (.lst (((nums m).map (DR t)).map λr=>~~~r))]) (kk:=2) (nn:=3) (j:=4) (it:=.slot 2) (c:=some (.cmp .Eq (.ix ⇑4 ↥0) (.blt .min [⇑4]))) (e:=.slot 4) ((nums m).map (DR t)) (λr=>~~~r) Ij (λr=>~~~r) (by simp! [U,cD]) rfl ⋯ ⋯ ⋯ (au _ (by simp;lia)) (λr hr G' hG=>by
   obtain⟨s,hs,rfl⟩:=fR.mp hr;obtain⟨_,q2⟩:=he s (cN.mp hs);cases e:DR t s with
   |nil=>exact absurd e q2
   |cons a l=>
    have h4:=hG.2;rw[e]at h4;have ha:L2.eU ((a::l).map D.int) 0=some (.int a):=by simp[L2.eU,L2.nk]
    simp! [U,mR,h4,ha,HS,Ij]) (λr hr _ G' hG=>by simp! [U,hG.2])
 have e1:(nums m).map (λs=>~~~(DR t s))=((nums m).map (DR t)).map λr=>~~~r:=by rw[List.map_map];rfl
 unfold aQ gF;simp! [U,w1,e1,w2];rfl
variable(hW:fns[w]?=some bM)(hI:fns[wi]?=some (bH w))(hM:fns[mw]?=some (cg wi ci))(hT:fns[it]?=some (cC mw w))(Ug:fns[mt]?=some (bB it cj))(hA:fns[al]?=some (gF rf))
omit hR in
include hW hI hM hT in
theorem wQ(m:Nat)(t: ~~~0)(hm:1<=m/\m<=6)(h:Tn m t):aQ (rn (n+48)) (k+5) (bB it cj) [.int m,~~~t]=some (.dat .non):=by
 have hl:=h.length;have q:=λn k=>(lT U hW hI hM (n:=n) (k:=k) m hm (~~~t) ⟨by rw[eA];lia,λx hx=>Pl.ints hx⟩).1
 have e:Ig m (~~~t)=true:=by rw[lR,dL];exact h
 rw[e]at q;unfold aQ bB;simp! [U,hT,aE (fx:=cC mw w) rfl,q]
include hW hI hM hT Ug hA
theorem De(m:Nat)(t: ~~~0)(hm:1<=m/\m<=6)(h:Tn m t)(he:Ends m t):aQ (rn (n+60)) (k+6) (kK mt al) [.int m,~~~t]=some (.new ((p7 m t).map λr=>~~~r)):=by
 have hr:bK 0 m=(nums m).map .int:=iS m;have q:=λn k=>Ik U hR (n:=n) (k:=k) m t hm h he
 have q0:=λn k=>wQ U hW hI hM hT (n:=n) (k:=k) (cj:=cj) m t hm h
 unfold aQ kK;simp! [U,Ug,aE (fx:=(bB it cj)) rfl,q0,hA,aE (fx:=(gF rf)) rfl,aD m ⋯,au m ⋯,hr,q]
def knd(m:Nat)(t: ~~~0): ~~~0:=(bh ((p7 m t).map λr=>(r.length:Int))).reverse
omit U hR hW hI hM hT Ug hA in
theorem Il(m:Nat)(t: ~~~0):(p7 m t).length<=m:=by unfold p7;refine kA (Bi _ _) ?_;rw[eA,gU];exact eD _
variable(YB:fns[ro]?=some (kK mt al))
include YB
theorem Nj(m:Nat)(t: ~~~0)(hm:1<=m/\m<=6)(h:Tn m t)(he:Ends m t):aQ (rn (n+80)) (k+7) (wN ro) [.int m,~~~t]=some (.dat (~~~(knd m t))):=by
 have hl:=Il m t;have q:=λn k=>De U hR hW hI hM hT Ug hA (n:=n) (k:=k) m t hm h he
 have w:=λn k=>eW (rn:=rn (n+70)) (bor:=[]) (k:=k+7) (g:=[‹m›,.dat (~~~t)]) (g1:=[‹m›,.dat (~~~t)]) (kk:=2) (nn:=2) (j:=3) (it:=.call ro [⇑0,⇑1]) (e:=.blt .len [⇑3]) (p7 m t) (λr=>~~~r) (λr=>.int (r.length:Nat)) (by simp! [U,cD,YB,aE (fx:=(kK mt al)) rfl,q]) rfl ⋯ ⋯ ⋯ (au _ ⋯) λr hr G' hG=>by
  simp! [U,hG.2]
 have e1:(p7 m t).map (λr=>D.int (r.length:Nat))=((p7 m t).map λr=>(r.length:Int)).map .int:=by rw[List.map_map];rfl
 have e2:aR (((p7 m t).map λr=>(r.length:Int)).map .int)=some ((p7 m t).map λr=>(r.length:Int)):=ints_map _
 have hl2:(p7 m t).length<64:=by lia
 unfold aQ wN;simp! [U,w,e1,e2,hl2,vn,bx];unfold knd;rw[CM]
end
section
variable{k n:Nat}{g g1:G}{rn:Nat->Rn}{fns:List Fx}{i:Nat}(U:jt fns rn)
include U
omit U in
theorem wR{t: ~~~0}{s a:Int}:∀(f:Nat) (l r: ~~~0),zZ t s f (a::l)=some r->∃l',r=a::l'
 | 0,l,r,h=>by
  unfold zZ at h;left
  . symm;exact⟨l,rfl⟩
  . symm
 |f+1,l,r,h=>by
  unfold zZ at h;left
  . symm;exact⟨l,rfl⟩
  . exact wR f _ r h
end
theorem p8:∀{l:List D}{ns: ~~~0},aR l=some ns->l=ns.map .int
 | [],ns,h=>by symm;rfl
 |d::l,ns,h=>by
  cases d with
  |int i=>
   unfold aR at h;cases e:aR l with
   |none=>rw[e]at h;symm
   |some ms=>rw[e]at h;symm;rw[p8 e];rfl
  |_=>symm
theorem wU:∀{l:List D}{ts: ~~~5},g9 l=some ts->l=ts.map ∅
 | [],ts,h=>by symm;rfl
 |d::l,ts,h=>by
  cases d with
  |tup x=>
   unfold g9 at h;left
   . rename_i n ns d8 e1 e2;symm;rw[wU e2,p8 e1];rfl
   . symm
  |_=>symm
noncomputable def Z5:Nat->Nat->Nat->List (~~~0)
 | 0,_,_=>[]
 |f+1,cu,most=>if cu=0 then [[]]else (List.range (min cu most)).flatMap λ(i:Nat)=>(Z5 f (cu - (i+1)) (i+1)).map ((((i+1:Nat):Int)) :: ·)
def kinds(m:Nat): ~~~5:=Z5 (m+1) m m
def fL:Nat->Int
 | 0=>1
 |n+1=>fL n * ((n+1:Nat):Int)
noncomputable def fB: ~~~0->~~~0->Int
 |_,[]=>1
 |b,a::l=>a * (((b++[a]).count a:Nat):Int) * fB (b++[a]) l
def cnt(m:Nat)(t: ~~~0):Int:=fL m / fB [] t
noncomputable def Nk:Nat->~~~0->Prop
 |_,[]=>True
 |most,a::l=>1<=a/\a<=most/\Nk a.toNat l
theorem Nk.pos:∀{t: ~~~0}{most:Nat},Nk most t->0<=t.sum/\(t≠[]->1<=t.sum)
 | [],_,_=>⟨by simp,λh=>absurd rfl h⟩
 |a::l,_,h=>by
  have:=(Nk.pos h.2.2).1;have h1:=h.1;simp only[Bn];lia
theorem ux:∀(f cu most:Nat) (t: ~~~0),cu<f->(t∈Z5 f cu most ↔ t.sum=cu/\Nk most t)
 | 0,_,_,_,h=>absurd h (A6 _)
 |f+1,cu,most,t,h=>by
  unfold Z5;by_cases hl:cu=0
  .
   rw[fN hl];subst hl;rw[eP];refine⟨λe=>by subst e;exact⟨rfl,trivial⟩,λ⟨e,q⟩=>?_⟩
   cases t with
   |nil=>rfl
   |cons a l=>have:=q.pos.2 ⋯;lia
  .
   rw[hU hl];simp only[CL,mI,fR];constructor
   .
    rintro⟨i,hi,l,hm,rfl⟩;obtain⟨e,q⟩:=(ux f _ _ l ⋯).mp hm;refine⟨by rw[Bn,e];lia,by lia,by lia,?_⟩
    rw[show ((i+1:Nat):Int).toNat=i+1 by lia]
    exact q
   .
    rintro⟨e,q⟩;cases t with
    |nil=>simp at e;lia
    |cons a l=>
     obtain⟨q1,q2,q3⟩:=q;have hp:=q3.pos.1;rw[Bn]at e;refine⟨(a - 1).toNat,by lia,l,(ux f _ _ l ⋯).mpr ⟨by lia,?_⟩,?_⟩
     . rw[show (a - 1).toNat+1=a.toNat by lia];exact q3
     .
      congr 1;lia
noncomputable def adj: ~~~0->Bool
 |a::b::l=>decide (a ≥ b)&&adj (b::l)
 |_=>true
theorem z5:∀(t: ~~~0) (most:Nat),Nk most t ↔ (∀a∈t,1<=a)/\adj t=true/\(∀a∈t.head?,a<=most)
 | [],_=>by simp[Nk,adj]
 | [a],most=>by simp[Nk,adj]
 |a::b::l,most=>by
  have ih:=z5 (b::l) a.toNat;simp only[Nk]at ih ⊢
  simp only[adj,dE,dL,d6,List.head?_cons,Option.mem_def,Option.some.injEq,forall_eq',forall_eq_or_imp]at ih ⊢
  constructor
  . rintro⟨h1,h2,h3,h4,h5⟩;have:=ih.mp ⟨h3,h4,h5⟩;exact⟨⟨h1,this.1.1,this.1.2⟩,⟨by lia,this.2.1⟩,h2⟩
  . rintro⟨⟨h1,h2,h3⟩,⟨h4,h5⟩,h6⟩;exact⟨h1,h6,ih.mpr ⟨⟨h2,h3⟩,h5,by lia⟩⟩
theorem rR(m:Nat)(t: ~~~0):t∈kinds m ↔ (∀a∈t,1<=a)/\t.sum=m/\adj t=true:=by
 unfold kinds;rw[ux _ _ _ _ (mE _),z5];constructor
 . rintro⟨h1,h2,h3,_⟩;exact⟨h2,h1,h3⟩
 .
  rintro⟨h1,h2,h3⟩;refine⟨h2,h1,h3,λa ha=>?_⟩
  cases t with
  |nil=>cases ha
  |cons b l=>
   cases ha;have hl:0<=l.sum:=by
    have:∀(l: ~~~0),(∀a∈l,1<=a)->0<=l.sum:=λl=>by
     induction l with
     |nil=>intro _;simp
     |cons x l ih=>intro h;have:=ih λa ha=>h a (bP _ ha);have:=h x c8;rw[Bn];lia
    exact this l λa ha=>h1 a (bP _ ha)
   rw[Bn]at h2;lia
def ju:Fx:=⟨1,1,[(.ret (.blt .all [(.comp 1 2 (.nm 2) (.cL ↥1 (.blt .len [⇑0])) none (.cmp .GtE (.ix ⇑0 (.bin .Sub ⇑2 ↥1)) (.ix ⇑0 ⇑2)))]))]⟩
def cY(mw w fa:Nat):Fx:=⟨2,2,[(.expr (.call mw [⇑0,↥1,↥9])),(.ite (.not (.pB ⇑1 "tuple")) (~~~4) []),(.ite (.not (.blt .all [(.comp 2 2 (.nm 3) ⇑1 none (.and [(.call w [⇑3]),(.cmp .GtE ⇑3 ↥1)]))])) (~~~4) []),(.ret (.and [(.cmp .Eq (.blt .sum [⇑1]) ⇑0),(.call fa [⇑1])]))]⟩
noncomputable def dX(ik ci:Nat):Fx:=⟨2,2,[(.ite (.not (.call ik [⇑0,⇑1])) [.stuck] [])]⟩
def Nm(m:Nat):D->Bool
 |.tup l=>match aR l with
  |some t=>decide (t∈kinds m)
  |none=>false
 |_=>false
def Uh(t: ~~~0):Bool:=(List.range (t.length - 1)).all λi=>decide (gt t i ≥ gt t (i+1))
theorem z6(a:Int)(l: ~~~0)(i:Nat):gt (a::l) ((i:Int)+1)=gt l i:=by
 unfold gt;rw[show ((i:Int)+1).toNat=i+1 by lia,show (i:Int).toNat=i by lia]
 simp
theorem z7:∀t:List Int,Uh t=adj t
 | []=>rfl
 | [a]=>rfl
 |a::b::l=>by
  have ih:=z7 (b::l);unfold Uh at ih ⊢
  simp only[i5,Nat.add_sub_cancel]at ih ⊢
  rw[List.range_succ_eq_map,List.all_cons,Cs,adj,<- ih];have:∀i:Nat,decide (gt (a::b::l) ((i+1:Nat):Int) ≥ gt (a::b::l) (((i+1:Nat):Int)+1))=decide (gt (b::l) (i:Int) ≥ gt (b::l) ((i:Int)+1)):=λi=>by
   rw[show ((i+1:Nat):Int)=(i:Int)+1 by lia,z6,show (i:Int)+1+1=((i+1:Nat):Int)+1 by lia,z6,show ((i+1:Nat):Int)=(i:Int)+1 by lia]
  have h2:(λi:Nat=>decide (gt (a::b::l) (i:Int) ≥ gt (a::b::l) ((i:Int)+1))) ∘ Nat.succ=λi:Nat=>decide (gt (b::l) (i:Int) ≥ gt (b::l) ((i:Int)+1)):=funext this
  rw[h2];rfl
def pos1:D->Bool
 |.int i=>decide (i ≥ 1)
 |_=>false
theorem Np{a:D}(h:isInt a=false):pos1 a=false:=by cases a <;> first |rfl |symm
theorem Im{a:D}(h:isInt a=true):∃i,a=.int i:=by cases a <;> first |exact⟨_,rfl⟩ |symm
theorem rS(t: ~~~0):(t.map D.int).all pos1=true ↔ ∀a∈t,1<=a:=by simp[eM,pos1]
theorem Io{l:List D}(h:l.all pos1=true):∃t:List Int,l=t.map .int:=lQ (eM.mpr λx hx=>by
 have:=eM.mp h x hx;cases x <;> first |rfl |cases this)
theorem rT(m:Nat)(t: ~~~0):Nm m (~~~t)=decide (t∈kinds m):=by
 show (match aR (t.map .int)with |some t=>decide (t∈kinds m) |none=>false)=_
 rw[ints_map]
theorem Nq(m:Nat){l:List D}(h:l.all pos1=false):Nm m (.tup l)=false:=by
 show (match aR l with |some t=>decide (t∈kinds m) |none=>false)=_
 cases e:aR l with
 |none=>rfl
 |some t=>dsimp only;rw[decide_eq_false_iff_not,rR];rintro⟨q,_⟩;rw[p8 e,(rS t).mpr q]at h;symm
section
variable{k n:Nat}{g g1:G}{rn:Nat->Rn}{fns:List Fx}{w wi mw fa ik ci cj:Nat}(U:jt fns rn)
include U
theorem Nr(t: ~~~0)(h:t.length<=1000):aQ (rn (n+20)) k ju [~~~t]=some (.dat (.bl (adj t))):=by
 have w1:∀n k,eV (rn (n+10)) [] k 1 2 (.nm 2) (.cL ↥1 (.blt .len [⇑0])) none (.cmp .GtE (.ix ⇑0 (.bin .Sub ⇑2 ↥1)) (.ix ⇑0 ⇑2)) [.dat (~~~t)]=some (((List.range (t.length - 1)).map λ(i:Nat)=>decide (gt t i ≥ gt t (i+1))).map .bl,[.dat (~~~t)]):=λn k=>by
  rw[List.map_map];refine eW (rn:=rn (n+10)) (bor:=[]) (k:=k) (g:=[.dat (~~~t)]) (g1:=[.dat (~~~t)]) (kk:=2) (nn:=1) (j:=2) (List.range (t.length - 1)) (λ(i:Nat)=>D.int (1+(i:Int))) (λ(i:Nat)=>.bl (decide (gt t i ≥ gt t (i+1)))) ?_ rfl ⋯ ⋯ ⋯ (au _ (by rw[An];lia)) λi hi G' hG=>?_
  .
   have hr:((t.length:Int) - 1).toNat=t.length - 1:=by lia
   have o1:=aD 1 ⋯;have o2:=aD (t.length:Int) ⋯;simp! [U,cD,o1,o2,bK,hr]
  .
   have h0:=hG.1 0 ⋯;have h2:=hG.2;rw[mI]at hi;have a1:L2.eU (t.map D.int) (1+(i:Int) - 1)=some (.int (gt t i)):=by rw[show 1+(i:Int) - 1=(i:Int)by lia];exact cM ⋯
   have a2:L2.eU (t.map D.int) (1+(i:Int))=some (.int (gt t (i+1))):=by rw[show 1+(i:Int)=(i:Int)+1 by lia];exact cM ⋯
   simp only[List.getElem?_cons_zero]at h0;simp! [U,h0,h2,a1,a2]
 have e:((List.range (t.length - 1)).map λ(i:Nat)=>decide (gt t i ≥ gt t (i+1))).all id=adj t:=by rw[<- z7];unfold Uh;rw[Cs];rfl
 unfold aQ ju;simp! [U,w1,e]
variable(hW:fns[w]?=some bM)(hF:fns[fa]?=some ju)(hI:fns[wi]?=some (bH w))(hM:fns[mw]?=some (cg wi ci))
include hW hF hI hM
theorem Ip(m:Nat)(hm:1<=m/\m<=9)(d:D)(hd:tR (vn d) "tuple"=false):aQ (rn (n+40)) (k+4) (cY mw w fa) [.int m,d]=some (.dat (.bl false))/\zW (rn (n+40)) (k+4) (cY mw w fa) [.int m,d]=none:=by
 have hin:yQ 1 9 (.int m)=true:=by unfold yQ;simp only[dL];lia
 have mu:=λn k=>nZ U hW hI (n:=n) (k:=k) (ci:=ci) (.int m) 1 9 hin
 have mx:=λn k=>zY U hW hI (n:=n) (k:=k) (ci:=ci) (.int m) 1 9 hin
 unfold aQ zW cY;constructor
 . simp! [U,hM,bz (fx:=cg wi ci) rfl,mu,hd]
 . simp! [U,hM,bz (fx:=cg wi ci) rfl,mu,mx,hd]
theorem Df(m:Nat)(hm:1<=m/\m<=9)(d:D)(hd:Nh d):aQ (rn (n+40)) (k+4) (cY mw w fa) [.int m,d]=some (.dat (.bl (Nm m d)))/\zW (rn (n+40)) (k+4) (cY mw w fa) [.int m,d]=none:=by
 have hin:yQ 1 9 (.int m)=true:=by unfold yQ;simp only[dL];lia
 have mu:=λn k=>nZ U hW hI (n:=n) (k:=k) (ci:=ci) (.int m) 1 9 hin
 have mx:=λn k=>zY U hW hI (n:=n) (k:=k) (ci:=ci) (.int m) 1 9 hin
 cases d with
 |tup l=>
  obtain⟨h1,h2⟩:=hd;have o:∀n k,eV (rn (n+14)) [] (k+1) 2 2 (.nm 3) ⇑1 none (.and [(.call w [⇑3]),(.cmp .GtE ⇑3 ↥1)]) [‹m›,.dat (.tup l)]=some ((l.map pos1).map .bl,[‹m›,.dat (.tup l)]):=λn k=>by
   rw[List.map_map];have:=eW (rn:=rn (n+14)) (bor:=[]) (k:=k+1) (g:=[‹m›,.dat (.tup l)]) (g1:=[‹m›,.dat (.tup l)]) (kk:=2) (nn:=2) (j:=3) (it:=.slot 1) (e:=(.and [(.call w [⇑3]),(.cmp .GtE ⇑3 ↥1)])) l id (λx=>.bl (pos1 x)) (by simp! [U,cD]) rfl ⋯ ⋯ ⋯ (au _ ⋯) λa _ G' hG=>by
    have h2:=hG.2;simp only[id]at h2;cases hi:isInt a with
    |true=>obtain⟨i,rfl⟩:=Im hi;simp! [U,h2,hW,aJ (fx:=bM) rfl,fJ U,isInt,pos1]
    |false=>simp! [U,h2,hW,aJ (fx:=bM) rfl,fJ U,hi,Np hi]
   exact this
  have ea:(l.map pos1).all id=l.all pos1:=by simp[Cs]
  cases e:l.all pos1 with
  |true=>
   obtain⟨t,rfl⟩:=Io e;have q:=(rS t).mp e;have hl:t.length<=20:=by have:=eA (as:=t) D.int;lia
   have Z6:=λn k=>Nr U (n:=n) (k:=k) t ⋯
   have hk:Nm m (~~~t)=(decide (t.sum=m)&&adj t):=by rw[rT,At];simp only[dL,dE,rR];exact⟨λh=>h.2,λh=>⟨q,h⟩⟩
   rw[hk];rw[e]at ea;unfold aQ zW cY;constructor
   .
    cases hs:decide (t.sum=(m:Int))with
    |true=>simp! [U,hM,bz (fx:=cg wi ci) rfl,mu,o,ea,hs,hF,aJ (fx:=ju) rfl,Z6,(l9 hs)]
    |false=>simp! [U,hM,bz (fx:=cg wi ci) rfl,mu,o,ea,hs,hF,aJ (fx:=ju) rfl,Z6,(AW hs)]
   .
    cases hs:decide (t.sum=(m:Int))with
    |true=>simp! [U,hM,bz (fx:=cg wi ci) rfl,mu,mx,o,ea,hF,aJ (fx:=ju) rfl,Z6,(l9 hs)]
    |false=>simp! [U,hM,bz (fx:=cg wi ci) rfl,mu,mx,o,ea,hF,aJ (fx:=ju) rfl,Z6,(AW hs)]
  |false=>
   rw[Nq m e];rw[e]at ea;unfold aQ zW cY;constructor
   . simp! [U,hM,bz (fx:=cg wi ci) rfl,mu,o,ea]
   . simp! [U,hM,bz (fx:=cg wi ci) rfl,mu,mx,o,ea]
 |_=>exact Ip U hW hF hI hM m hm _ rfl
variable(hK:fns[ik]?=some (cY mw w fa))
include hK
theorem mY(m:Nat)(hm:1<=m/\m<=9)(t: ~~~0)(h:t∈kinds m)(hl:t.length<=20):aQ (rn (n+50)) (k+5) (dX ik cj) [.int m,~~~t]=some (.dat .non):=by
 have hd:Nh (~~~t):=⟨by rw[eA];exact hl,λx hx=>Pl.ints hx⟩
 have q:=λn k=>(Df U hW hF hI hM (n:=n) (k:=k) m hm (~~~t) hd).1
 rw[rT,l7 h]at q;unfold aQ dX;simp! [U,hK,aE (fx:=cY mw w fa) rfl,q]
end
def jP(wi:Nat):Fx:=⟨2,2,[(.ite (.or [(.not (.pB ⇑1 "tuple")),(.cmp .NotEq (.blt .len [⇑1]) ↥2)]) (~~~4) []),(.ret (.and [(.blt .all [(.comp 2 2 (.nm 3) ⇑1 none (.call wi [⇑3,↥0,(.bin .Sub ⇑0 ↥1)]))]),(.cmp .Lt (.ix ⇑1 ↥0) (.ix ⇑1 ↥1))]))]⟩
def yR:Fx:=⟨1,1,[(.ret (.blt .all [(.comp 1 2 (.nm 2) (.cL ↥1 (.blt .len [⇑0])) none (.cmp .Lt (.ix ⇑0 (.bin .Sub ⇑2 ↥1)) (.ix ⇑0 ⇑2)))]))]⟩
def jQ(wi it ri:Nat):Fx:=⟨1,3,[(.ite (.or [(.not (.pB ⇑0 "tuple")),(.cmp .NotEq (.blt .len [⇑0]) ↥2)]) (~~~4) []),(.tgt (.tp [1,2]) ⇑0),(.ite (.or [(.not (.call wi [⇑1,↥1,↥6])),(.not (.pB ⇑2 "tuple"))]) (~~~4) []),(.ret (.and [(.blt .all [(.comp 3 2 (.nm 4) ⇑2 none (.call it [⇑1,⇑4]))]),(.call ri [⇑2])]))]⟩
noncomputable def fM(iw ci:Nat):Fx:=⟨1,1,[(.ite (.not (.call iw [⇑0])) [.stuck] [])]⟩
noncomputable def W(m:Nat)(ao: ~~~5):D:=.tup [.int m,.tup (ao.map ∅)]
structure Wb(m:Nat)(ao: ~~~5):Prop where
 tie:∀x∈ao,∃a b:Int,x=[a,b]/\0<=a/\a<b/\b<m
 Z7:ao.Pairwise λx y=>HT.lexLt x y=true
 len:ao.length<=15
theorem lU(l: ~~~5):fS (l.map ∅)=true:=by
 induction l with
 |nil=>rfl
 |cons x l ih=>simp[fS,iZ,dW,ih]
theorem lV(l: ~~~5):deps (l.map ∅)<=1:=by
 induction l with
 |nil=>simp[deps]
 |cons x l ih=>simp[deps,dep,fj];lia
theorem rW:∀a b:List (~~~0),dB (a.map ∅) (b.map ∅)=decide (a=b)
 | [],[]=>rfl
 | [],_::_=>rfl
 |_::_,[]=>rfl
 |x::a,y::b=>by
  simp only[List.map_cons,dB,cP,dz,rW a b,List.cons.injEq,Bool.decide_and]
theorem Ui(m m':Nat)(a b: ~~~5):kr (W m a) (W m' b)=true:=by have:=lV a;simp[kr,W,iZ,fS,lU,dep,deps];lia
theorem YC(m:Nat)(a b: ~~~5):cP (W m a) (W m b)=decide (a=b):=by simp[W,cP,dB,rW]
section
variable{wh wi it ri iw ci:Nat}(U:jt fns rn)
include U
variable(hW:fns[wh]?=some bM)(hI:fns[wi]?=some (bH wh))
include hW hI
theorem Iq(m:Nat)(a b:Int)(h:0<=a/\a<b/\b<m):aQ (rn (n+40)) (k+3) (jP wi) [.int m,~~~[a,b]]=some (.dat (.bl true)):=by
 have w:=λn k=>eW (rn:=rn (n+24)) (bor:=[]) (k:=k+2) (g:=[‹m›,.dat (~~~[a,b])]) (g1:=[‹m›,.dat (~~~[a,b])]) (kk:=2) (nn:=2) (j:=3) (it:=.slot 1) (e:=.call wi [⇑3,↥0,(.bin .Sub ⇑0 ↥1)]) [a,b] .int (λ_=>.bl true) (by simp! [U,cD]) rfl ⋯ ⋯ ⋯ (au _ ⋯) λx hx G' hG=>by
  have h0:G'[0]?=some ‹m›:=hG.1 0 ⋯;have hx':(0:Int)<=x/\x<=m - 1:=by simp only[d6,kS,yB]at hx;lia
  simp! [U,hG.2,h0,hI,bz (fx:=bH wh) rfl,ji U hW,yQ,hx']
 have e1:[a,b].map (λ_=>D.bl true)=([true,true]).map .bl:=rfl
 have i0:L2.eU ([a,b].map D.int) 0=some (.int a):=rfl;have i1:L2.eU ([a,b].map D.int) 1=some (.int b):=rfl;unfold aQ jP;simp! [U,w,e1,i0,i1,h]
omit hW hI in
theorem Uj(m:Nat)(ao: ~~~5)(h:Wb m ao):aQ (rn (n+40)) k yR [.tup (ao.map ∅)]=some (.dat (.bl true)):=by
 have hl:=h.len;have w:=λn k=>eW (rn:=rn (n+16)) (bor:=[]) (k:=k) (g:=[.dat (.tup (ao.map ∅))]) (g1:=[.dat (.tup (ao.map ∅))]) (kk:=2) (nn:=1) (j:=2) (it:=.cL ↥1 (.blt .len [⇑0])) (e:=.cmp .Lt (.ix ⇑0 (.bin .Sub ⇑2 ↥1)) (.ix ⇑0 ⇑2)) (List.range (ao.length - 1)) (λ(k:Nat)=>.int (1+k:Int)) (λ_=>.bl true) (by
   have e:((ao.length:Int) - 1).toNat=ao.length - 1:=by lia
   simp! [U,cD,aD 1 ⋯,aD (ao.length:Int) ⋯,e,bK]) rfl ⋯ ⋯ ⋯ (au _ (by simp;lia)) λj hj G' hG=>by
  have h0:G'[0]?=some (.dat (.tup (ao.map ∅))):=hG.1 0 ⋯
  have hj':=mI.mp hj;have j1:L2.eU (ao.map ∅) (1+(j:Int) - 1)=some (~~~(ao[j]'⋯)):=by rw[show (1+(j:Int) - 1)=((j:Nat):Int)by lia,kJ _ _ (by simp;lia)];simp
  have j2:L2.eU (ao.map ∅) (1+(j:Int))=some (~~~(ao[j+1]'⋯)):=by rw[show (1+(j:Int))=((j+1:Nat):Int)by lia,kJ _ _ (by simp;lia)];simp
  have hlt:HT.lexLt (ao[j]'⋯) (ao[j+1]'⋯)=true:=List.pairwise_iff_getElem.mp h.Z7 j (j+1) ⋯ ⋯ ⋯;have hc:fT .Lt (~~~(ao[j]'⋯)) (~~~(ao[j+1]'⋯))=some true:=by simp only[fT,X4,ints_map,hlt]
  simp! [U,hG.2,h0,j1,j2,hc]
 have e1:(List.range (ao.length - 1)).map (λ_=>D.bl true)=((List.range (ao.length - 1)).map λ_=>true).map .bl:=by rw[List.map_map];rfl
 have e2:((List.range (ao.length - 1)).map λ_=>true).all id=true:=by simp
 unfold aQ yR;simp! [U,w,e1,e2]
variable(qK:fns[it]?=some (jP wi))(hR:fns[ri]?=some yR)
include qK hR
theorem Ir(m:Nat)(ao: ~~~5)(hm:1<=m/\m<=6)(h:Wb m ao):aQ (rn (n+60)) (k+5) (jQ wi it ri) [W m ao]=some (.dat (.bl true)):=by
 have hl:=h.len;have w:=λn k=>eW (rn:=rn (n+50)) (bor:=[]) (k:=k+4) (g:=[.dat (W m ao),‹m›,.dat (.tup (ao.map ∅))]) (g1:=[.dat (W m ao),‹m›,.dat (.tup (ao.map ∅))]) (kk:=2) (nn:=3) (j:=4) (it:=.slot 2) (e:=.call it [⇑1,⇑4]) ao ∅ (λ_=>.bl true) (by simp! [U,cD]) rfl ⋯ ⋯ ⋯ (au _ ⋯) λx hx G' hG=>by
  have h1:G'[1]?=some ‹m›:=hG.1 1 ⋯;obtain⟨a,b,rfl,hab⟩:=h.tie x hx;simp! [U,hG.2,h1,qK,aE (fx:=jP wi) rfl,Iq U hW hI m a b hab]
 have e1:ao.map (λ_=>D.bl true)=(ao.map λ_=>true).map .bl:=by rw[List.map_map];rfl
 have e2:(ao.map λ_=>true).all id=true:=by simp
 have q:=λn k=>Uj U (n:=n) (k:=k) m ao h
 have ty:tR (vn (W m ao)) "tuple"=true:=rfl;have bl:jS .len [W m ao]=some ‹2›:=rfl;have st:∀s1 s2,Tg.set (.tp [1,2]) (W m ao) [.dat (W m ao),s1,s2]=some [.dat (W m ao),‹m›,.dat (.tup (ao.map ∅))]:=λ_ _=>rfl
 unfold aQ jQ;simp! [U,ty,bl,Tg.ix,st,hI,bz (fx:=bH wh) rfl,ji U hW,yQ,(show (1:Int)<=m/\(m:Int)<=6 by lia),w,e1,e2,hR,aJ (fx:=yR) rfl,q]
variable(Ph:fns[iw]?=some (jQ wi it ri))
include Ph
theorem p9(m:Nat)(ao: ~~~5)(hm:1<=m/\m<=6)(h:Wb m ao):aQ (rn (n+70)) (k+6) (fM iw ci) [W m ao]=some (.dat .non):=by unfold aQ fM;simp! [U,Ph,aJ (fx:=jQ wi it ri) rfl,Ir U hW hI qK hR m ao hm h]
end
def tm(t: ~~~0)(x: ~~~0): ~~~0:=if gt t (gt x 0)<gt t (gt x 1)then [gt t (gt x 0),gt t (gt x 1)]else [gt t (gt x 1),gt t (gt x 0)]
def tw(t: ~~~0)(ao: ~~~5): ~~~5:=cS dR (ao.map (tm t))
theorem bC(a b:Int):gt [a,b] 0=a/\gt [a,b] 1=b:=⟨rfl,rfl⟩
theorem kL(t: ~~~0)(a b:Int):tm t [a,b]=if gt t a<gt t b then [gt t a,gt t b]else [gt t b,gt t a]:=rfl
def Pr(m:Nat)(x: ~~~0):Prop:=∃a b:Int,x=[a,b]/\0<=a/\a<b/\b<m
theorem uy{m:Nat}{t: ~~~0}(h:Tn m t){x y: ~~~0}(hx:Pr m x)(hy:Pr m y)(e:tm t x=tm t y):x=y:=by
 obtain⟨a,b,rfl,h1,h2,h3⟩:=hx;obtain⟨c,d,rfl,h4,h5,h6⟩:=hy;rw[kL,kL]at e;have i1:∀i j:Int,(0<=i/\i<m)->(0<=j/\j<m)->gt t i=gt t j->i=j:=λi j hi hj e=>h.inj hi hj e
 split at e <;> split at e <;> simp only[List.cons.injEq,and_true]at e
 .
  have:=i1 a c ⋯ ⋯ e.1;have:=i1 b d ⋯ ⋯ e.2
  subst_vars;rfl
 . have:=i1 a d ⋯ ⋯ e.1;have:=i1 b c ⋯ ⋯ e.2;lia
 . have:=i1 b c ⋯ ⋯ e.1;have:=i1 a d ⋯ ⋯ e.2;lia
 .
  have:=i1 b d ⋯ ⋯ e.1;have:=i1 a c ⋯ ⋯ e.2
  subst_vars;rfl
theorem jv{l: ~~~5}(h:l.Nodup):(cS dR l).Pairwise λx y=>HT.lexLt x y=true:=by
 have h1:=g6 (O:=dR) l;have h2:(cS dR l).Nodup:=(bV l).nodup_iff.mpr h;rw[BA]at h2;refine (h1.and h2).imp λ{x y} ⟨q1,q2⟩=>?_
 cases e:HT.lexLt x y with
 |true=>rfl
 |false=>exact absurd (lE x y e q1) q2
theorem Wb.nodup{m:Nat}{ao: ~~~5}(h:Wb m ao):ao.Nodup:=by rw[BA];exact h.Z7.imp λ{x y} q e=>by rw[e,lD]at q;cases q
noncomputable def uz:Fx:=⟨2,2,[(.ret (.ite (.cmp .Lt ⇑0 ⇑1) (.tup [⇑0,⇑1]) (.tup [⇑1,⇑0])))]⟩
def Iu(to:Nat):Fx:=⟨2,4,[(.tgt (.tp [2,3]) ⇑0),(.ret (.tup [⇑2,(.blt .tuple [(.blt .sorted [(.comp 4 3 (.tp [5,6]) ⇑3 none (.call to [(.ix ⇑1 ⇑5),(.ix ⇑1 ⇑6)]))])])]))]⟩
def kM(mb mt le:Nat):Fx:=⟨2,2,[(.expr (.call mb [⇑0])),(.expr (.call mt [(.ix ⇑0 ↥0),⇑1])),(.ret (.call le [⇑0,⇑1]))]⟩
section
variable{k n:Nat}{g g1:G}{rn:Nat->Rn}{fns:List Fx}{wh wi it ri iw ci cj cw mw tu mt mb le to:Nat}(U:jt fns rn)
include U
theorem Iv(a b:Int):aQ (rn (n+8)) k uz [.int a,.int b]=some (.dat (~~~(if a<b then [a,b]else [b,a]))):=by
 unfold aQ uz;by_cases h:a<b
 . simp! [U,h,au 2 ⋯];simp
 . simp! [U,h,au 2 ⋯];simp
variable(Z8:fns[to]?=some uz)
include Z8 in
theorem Uk(m:Nat)(ao: ~~~5)(t: ~~~0)(h:Wb m ao)(ht:Tn m t):aQ (rn (n+40)) (k+2) (Iu to) [W m ao,~~~t]=some (.dat (W m (tw t ao))):=by
 have hl:=h.len;have htl:=ht.length;have st:∀s1 s2,Tg.set (.tp [2,3]) (W m ao) [.dat (W m ao),.dat (~~~t),s1,s2]=some [.dat (W m ao),.dat (~~~t),‹m›,.dat (.tup (ao.map ∅))]:=λ_ _=>rfl
 have w:=λn k=>uo (rn:=rn (n+16)) (bor:=[]) (k:=k+1) (g:=[.dat (W m ao),.dat (~~~t),‹m›,.dat (.tup (ao.map ∅))]) (g1:=[.dat (W m ao),.dat (~~~t),‹m›,.dat (.tup (ao.map ∅))]) (kk:=3) (nn:=4) (j1:=5) (j2:=6) (it:=.slot 3) (e:=.call to [(.ix ⇑1 ⇑5),(.ix ⇑1 ⇑6)]) ao (λx=>.int (gt x 0)) (λx=>.int (gt x 1)) (λx=>~~~(tm t x)) (by
   have e:ao.map ∅=ao.map λx=>.tup [.int (gt x 0),.int (gt x 1)]:=mN λx hx=>by
    obtain⟨a,b,rfl,_⟩:=h.tie x hx;rfl
   simp! [U,cD,<- e]) rfl ⋯ ⋯ ⋯ ⋯ ⋯ ⋯ ⋯ (au _ ⋯) λx hx G' hG=>by
  have h1:G'[1]?=some (.dat (~~~t)):=hG.1 1 ⋯;obtain⟨a,b,rfl,h2,h3,h4⟩:=h.tie x hx;have h5:=hG.2.1;have h6:=hG.2.2;rw[(bC a b).1]at h5;rw[(bC a b).2]at h6;simp! [U,h5,h6,h1,cM (t:=t) (i:=a) ⋯,cM (t:=t) (i:=b) ⋯,Z8,aE (fx:=uz) rfl,Iv U,kL]
 have e1:ao.map (λx=>~~~(tm t x))=(ao.map (tm t)).map λx=>~~~x:=by rw[List.map_map];rfl
 have e2:=fH (ao.map (tm t)) (λx hx=>by obtain⟨y,_,rfl⟩:=fR.mp hx;unfold tm;split <;> simp) (by simp;lia)
 unfold aQ Iu;simp! [U,Tg.ix,st,w,e1,e2,au 2 ⋯];rfl
variable(hW:fns[wh]?=some bM)(hI:fns[wi]?=some (bH wh))(hM:fns[mw]?=some (cg wi ci))(hT:fns[tu]?=some (cC mw wh))(Ug:fns[mt]?=some (bB tu cj))
include hW hI hM hT
theorem qa(m:Nat)(t: ~~~0)(hm:1<=m/\m<=6)(h:Tn m t):aQ (rn (n+48)) (k+5) (bB tu cj) [.int m,~~~t]=some (.dat .non)/\zW (rn (n+48)) (k+5) (bB tu cj) [.int m,~~~t]=none:=by
 have hl:=h.length;have hf:Nh (~~~t):=⟨by rw[eA];lia,λx hx=>Pl.ints hx⟩
 have q:=λn k=>(lT U hW hI hM (n:=n) (k:=k) m hm (~~~t) hf).1
 have q2:=λn k=>(lT U hW hI hM (n:=n) (k:=k) m hm (~~~t) hf).2
 have e:Ig m (~~~t)=true:=by rw[lR,dL];exact h
 rw[e]at q;constructor
 . unfold aQ bB;simp! [U,hT,aE (fx:=cC mw wh) rfl,q]
 . unfold zW bB;simp! [U,hT,aE (fx:=cC mw wh) rfl,q,q2]
include Ug
variable(qK:fns[it]?=some (jP wi))(YD:fns[ri]?=some yR)(Ph:fns[iw]?=some (jQ wi it ri))(YF:fns[mb]?=some (fM iw cw))(hLe:fns[le]?=some (Iu to))
include qK YD Ph YF
include hLe Z8 in
theorem Dg(m:Nat)(ao: ~~~5)(t: ~~~0)(hm:1<=m/\m<=6)(h:Wb m ao)(ht:Tn m t):aQ (rn (n+90)) (k+8) (kM mb mt le) [W m ao,~~~t]=some (.dat (W m (tw t ao))):=by
 have i0:uO (W m ao) (.int 0)=some (.int m):=rfl;have q1:=λn k=>(qa U hW hI hM hT (cj:=cj) (n:=n) (k:=k) m t hm ht).1
 have q3:=λn k=>p9 (ci:=cw) U hW hI qK YD Ph (n:=n) (k:=k) m ao hm h
 have q4:=λn k=>Uk U Z8 (n:=n) (k:=k) m ao t h ht
 unfold aQ kM;simp! [U,YF,aJ (fx:=fM iw cw) rfl,q3,i0,Ug,aE (fx:=bB tu cj) rfl,q1,hLe,aE (fx:=Iu to) rfl,q4]
end
noncomputable def Dh:Fx:=⟨2,2,[(.ret (.ite (.cmp .Lt ⇑0 ⇑1) (.tup [⇑0,⇑1]) (.tup [⇑1,⇑0])))]⟩
def yS(pa al ti:Nat):Fx:=⟨1,2,[(.set 1 (.call pa [(.blt .len [⇑0])])),(.ret (.call al [(.iK 2 3 (.tp [3,4]) ⇑1 [⇑3,⇑4] (.call ti [(.ix ⇑0 ⇑3),(.ix ⇑0 ⇑4)])),⇑1]))]⟩
def gW(l: ~~~5): ~~~0:=l.getLastD []
theorem lW{l: ~~~5}(h:l≠[]):gW l∈l:=by unfold gW;rw[List.getLastD_eq_getLast?,List.getLast?_eq_some_getLast h];exact List.getLast_mem h
theorem rX(l: ~~~5)(h:l≠[]):L2.eU (l.map ∅) (-1)=some (~~~(gW l)):=by
 obtain⟨a,x,rfl⟩:∃a x,l=a++[x]:=⟨l.dropLast,l.getLast h,(AX h).symm⟩;unfold L2.eU L2.nk gW;have hz:(List.map ∅ (a++[x])).length=a.length+1:=by simp
 rw[hz,hU ⋯,fN ⋯,show (-1+((a.length+1:Nat):Int)).toNat=a.length by lia]
 simp
noncomputable def DS(nx: ~~~0->~~~0)(s: ~~~0):Nat->List (~~~0)->Option (~~~5)
 | 0,acc=>if nx (gW acc)=s then some acc else none
 |f+1,acc=>if nx (gW acc)=s then some acc else DS nx s f (acc++[nx (gW acc)])
def lX(nx: ~~~0->~~~0)(s: ~~~0): ~~~5:=(DS nx s 40 [s]).getD []
def yT(r: ~~~5):Bool:=match r with
 | []=>false
 |n::l=>decide (n=nF n l)
def rY(nx: ~~~0->~~~0)(ps: ~~~5):List (~~~5):=(ps.map (lX nx)).filter yT
def fU(u: ~~~0)(p: ~~~0): ~~~0:=match p with
 | [a,b]=>if gt u a<gt u b then [gt u a,gt u b]else [gt u b,gt u a]
 |_=>[]
def rZ(nx: ~~~0->~~~0)(ps: ~~~5):Bool:=ps.all λp=>decide (nx p∈ps)&&(match DS nx p 40 [p]with |some r=>!r.isEmpty&&decide (r.length<=41) |none=>false)&&!p.isEmpty
theorem z8{nx: ~~~0->~~~0}{ps: ~~~5}(hc:∀p∈ps,nx p∈ps){s: ~~~0}{r: ~~~5}:∀(f:Nat) (acc: ~~~5),acc≠[]->(∀x∈acc,x∈ps)->DS nx s f acc=some r->∀x∈r,x∈ps
 | 0,acc,_,h,e=>by
  unfold DS at e;split at e
  . cases e;exact h
  . cases e
 |f+1,acc,ha,h,e=>by
  unfold DS at e;split at e
  . cases e;exact h
  . exact z8 hc f _ ⋯ (λx hx=>(AI.mp hx).elim (h x) λz=>by rw[eP.mp z];exact hc _ (h _ (lW ha))) e
theorem z9(f: ~~~0->D):∀{ps: ~~~5}{p: ~~~0},p∈ps->O2 ps (ps.map f) p=some (f p)
 |q::ps,p,h=>by
  unfold O2;rw[List.map_cons];by_cases e:q=p
  . simp[e]
  . simp only[e,C9];exact z9 f ((d6.mp h).resolve_left λz=>e z.symm)
theorem Nt(n: ~~~0)(l: ~~~5)(h:∀x∈n::l,x≠[]):jS .min [.tup ((n::l).map ∅)]=some (.dat (~~~(nF n l))):=by have e:=wF (n::l) h;have e2:=rN n l;simp only[jS,G5,bx,e2,e]
section
variable{k n:Nat}{g g1:G}{rn:Nat->Rn}{fns:List Fx}{pa al ti rf:Nat}(U:jt fns rn)
include U
theorem Nu(qqz:D)(nx: ~~~0->~~~0)(ps: ~~~5)(hix:∀p∈ps,uO qqz (~~~p)=some (~~~(nx p)))(hcl:∀p∈ps,nx p∈ps)(s: ~~~0)(r: ~~~5):∀(f N:Nat) (acc: ~~~5),f<N->acc≠[]->(∀x∈acc,x∈ps)->acc.length+f<=100->DS nx s f acc=some r->
  xB ((rn (n+12)).t [] k (.cmp .NotEq (.ix ⇑0 (.ix ⇑2 (.neg ↥1))) ⇑1)) ((rn (n+12)).b [] k [(.expr (.append 2 (.ix ⇑0 (.ix ⇑2 (.neg ↥1)))))]) N [.dat qqz,.dat (~~~s),.own (acc.map ∅)]=some (.nx,[.dat qqz,.dat (~~~s),.own (r.map ∅)]):=by
 have test:∀acc:List (~~~0),acc≠[]->(∀x∈acc,x∈ps)->(rn (n+12)).t [] k (.cmp .NotEq (.ix ⇑0 (.ix ⇑2 (.neg ↥1))) ⇑1) [.dat qqz,.dat (~~~s),.own (acc.map ∅)]=some (!decide (nx (gW acc)=s),[.dat qqz,.dat (~~~s),.own (acc.map ∅)]):=λacc h1 h2=>by
  have hx:=hix (gW acc) (h2 _ (lW h1));simp! [U,rX acc h1,hx]
 intro f
 induction f with
 |zero=>
  intro N acc hN h1 h2 h3 hr;obtain⟨N,rfl⟩:∃N',N=N'+1:=⟨N - 1,by lia⟩
  unfold DS at hr;split at hr
  . rename_i e;cases hr;unfold xB;rw[test _ h1 h2];simp[e]
  . cases hr
 |succ f ih=>
  intro N acc hN h1 h2 h3 hr;obtain⟨N,rfl⟩:∃N',N=N'+1:=⟨N - 1,by lia⟩
  unfold DS at hr;have hx:=h2 (gW acc) (lW h1);split at hr
  . rename_i e;cases hr;unfold xB;rw[test _ h1 h2];simp[e]
  .
   rename_i e;unfold xB;rw[test acc h1 h2];simp only[e,decide_false,Bool.not_false];have hb:(rn (n+12)).b [] k [(.expr (.append 2 (.ix ⇑0 (.ix ⇑2 (.neg ↥1)))))] [.dat qqz,.dat (~~~s),.own (acc.map ∅)]=some (.nx,[.dat qqz,.dat (~~~s),.own ((acc++[nx (gW acc)]).map ∅)]):=by have hlt:acc.length<lim:=fA (mE _) (au (acc.length+1) ⋯);simp! [U,rX acc h1,hix (gW acc) hx,hlt];simp
   rw[hb];dsimp only;refine ih N (acc++[nx (gW acc)]) ⋯ ⋯ (λx hx'=>?_) (by rw[eC,l5];lia) hr
   rcases AI.mp hx' with hx' |hx'
   . exact h2 x hx'
   . cases eP.mp hx';exact hcl _ hx
theorem Di(qqz:D)(nx: ~~~0->~~~0)(ps: ~~~5)(hix:∀p∈ps,uO qqz (~~~p)=some (~~~(nx p)))(hcl:∀p∈ps,nx p∈ps)(s: ~~~0)(hs:s∈ps)(r: ~~~5)(hr:DS nx s 40 [s]=some r):aQ (rn (n+20)) k gB [qqz,~~~s]=some (.dat (.tup (r.map ∅))):=by
 have w:=λn k=>Nu U (n:=n) (k:=k) qqz nx ps hix hcl s r 40 100000 [s] ⋯ ⋯ (by simpa using hs) ⋯ hr
 have e:List.map ∅ [s]=[~~~s]:=rfl
 simp only[e]at w;unfold aQ gB;simp! [U,w,au 1 ⋯]
omit U in
theorem fO{nx: ~~~0->~~~0}{ps: ~~~5}(h:rZ nx ps=true){p: ~~~0}(hp:p∈ps):nx p∈ps/\DS nx p 40 [p]=some (lX nx p)/\lX nx p≠[]/\(∀x∈lX nx p,x∈ps)/\(lX nx p).length<=41/\p≠[]:=by
 have:=eM.mp h p hp;simp only[dE,dL]at this;obtain⟨⟨h1,h2⟩,h3⟩:=this;unfold lX;cases e:DS nx p 40 [p]with
 |none=>rw[e]at h2;cases h2
 |some r=>
  rw[e]at h2;simp only[dE,dL]at h2;obtain⟨h4,h6⟩:=h2;have hc:∀q∈ps,nx q∈ps:=λq hq=>by
   have:=eM.mp h q hq;simp only[dE,dL]at this;exact this.1.1
  have h5:∀x∈r,x∈ps:=z8 hc 40 [p] ⋯ (by simpa using hp) e
  exact⟨h1,rfl,λz=>(by rw[show r=[]from z]at h4;cases h4),h5,h6,λz=>(by rw[z]at h3;cases h3)⟩
variable(hR:fns[rf]?=some gB)
include hR
theorem Dj(qqz:D)(nx: ~~~0->~~~0)(ps: ~~~5)(hix:∀p∈ps,uO qqz (~~~p)=some (~~~(nx p)))(hg:rZ nx ps=true)(hl:ps.length<=100):aQ (rn (n+40)) (k+1) (gF rf) [qqz,.lst (ps.map ∅)]=some (.new ((rY nx ps).map λr=>.tup (r.map ∅))):=by
 have hcl:∀p∈ps,nx p∈ps:=λp hp=>(fO hg hp).1
 have w1:=λn k=>eW (rn:=rn (n+30)) (bor:=[]) (k:=k+1) (g:=[.dat qqz,.dat (.lst (ps.map ∅)),.no]) (g1:=[.dat qqz,.dat (.lst (ps.map ∅)),.no]) (kk:=2) (nn:=3) (j:=4) (it:=.slot 1) (e:=.call rf [⇑0,⇑4]) ps ∅ (λs=>D.tup ((lX nx s).map ∅)) (by simp! [U,cD]) rfl ⋯ ⋯ ⋯ (au _ ⋯) λs hs G' hG=>by
  have h0:G'[0]?=some (.dat qqz):=hG.1 0 ⋯;simp! [U,hG.2,h0,hR,aE (fx:=gB) rfl,Di U qqz nx ps hix hcl s hs _ (fO hg hs).2.1]
 have w2:=λn k=>rM (rn:=rn (n+30)) (bor:=[]) (k:=k+1) (g:=[.dat qqz,.dat (.lst (ps.map ∅)),.own ((ps.map (lX nx)).map λr=>.tup (r.map ∅))]) (g1:=[.dat qqz,.dat (.lst (ps.map ∅)),.dat (.lst ((ps.map (lX nx)).map λr=>.tup (r.map ∅)))]) (kk:=2) (nn:=3) (j:=4) (it:=.slot 2) (c:=some (.cmp .Eq (.ix ⇑4 ↥0) (.blt .min [⇑4]))) (e:=.slot 4) (ps.map (lX nx)) (λr=>D.tup (r.map ∅)) yT (λr=>D.tup (r.map ∅)) (by simp! [U,cD]) rfl ⋯ ⋯ ⋯ (au _ (by rw[eA];lia)) (λr hr G' hG=>by
   obtain⟨s,hs,rfl⟩:=fR.mp hr;obtain⟨_,_,q2,q3,_,_⟩:=fO hg hs;cases e:lX nx s with
   |nil=>exact absurd e q2
   |cons a l=>
    have h4:=hG.2;rw[e]at h4;have ha:L2.eU ((a::l).map ∅) 0=some (~~~a):=by simp[L2.eU,L2.nk]
    have hm:=Nt a l (λx hx=>(fO hg (q3 x (e▸hx))).2.2.2.2.2)
    simp! [U,mR,h4,ha,hm,yT]) (λr hr _ G' hG=>by simp! [U,hG.2])
 have e1:ps.map (λs=>D.tup ((lX nx s).map ∅))=(ps.map (lX nx)).map λr=>.tup (r.map ∅):=by rw[List.map_map];rfl
 unfold aQ gF;simp! [U,w1,e1,w2];rfl
omit hR
theorem Nv(x y:Int):aQ (rn (n+8)) k Dh [.int x,.int y]=some (.dat (~~~(if x<y then [x,y]else [y,x]))):=by
 unfold aQ Dh;by_cases h:x<y
 . simp! [U,h,au 2 ⋯];rfl
 . simp! [U,h,au 2 ⋯];rfl
variable(hT:fns[ti]?=some Dh)
include hT
theorem r9(m:Nat)(u: ~~~0)(hu:u.length=m)(xD: ~~~5)(hp:∀p∈xD,∃a b:Int,p=[a,b]/\0<=a/\a<m/\0<=b/\b<m):∀(ps ka: ~~~5) (a2 a3 a4 a5:Slot),(∀p∈ps,p∈xD)->(ka++ps).Nodup->(ka++ps).length<=100->jH [a2,a5]=true->∃b3 b4:Slot,
  Sx (rn (n+20)) [] (k+1) (.tp [3,4]) [⇑3,⇑4] (.call ti [(.ix ⇑0 ⇑3),(.ix ⇑0 ⇑4)]) (ps.map ∅) ka (ka.map λp=>~~~(fU u p)) [.dat (~~~u),.dat (.lst (xD.map ∅)),a2,a3,a4,a5]=some ((ka++ps,(ka++ps).map λp=>~~~(fU u p)),[.dat (~~~u),.dat (.lst (xD.map ∅)),a2,b3,b4,a5])
 | [],ka,a2,a3,a4,a5,_,_,_,_=>⟨a3,a4,by rw[n0];rfl⟩
 |p::ps,ka,a2,a3,a4,a5,h1,h2,h3,h4=>by
  obtain⟨a,b,e,ha,ha2,hb,hb2⟩:=hp p (h1 p c8);subst e;have h2':((ka++[[a,b]])++ps).Nodup:=by rw[wE];exact h2
  obtain⟨b3,b4,ih⟩:=r9 m u hu xD hp ps (ka++[[a,b]]) a2 ‹a› ‹b› a5 (λp hp=>h1 p (bP _ hp)) h2' (by rw[wE];exact h3) h4
  refine⟨b3,b4,?_⟩;have hn:(ka.all λk=>!decide (k=[a,b]))=true:=by rw[eM];intro x hx;rw[y8]at h2;have:=h2.2.2 x hx [a,b] c8;simp[this]
  have hlk:ka.length<lim:=fA (mE _) (au (ka.length+1) (by rw[eC]at h3;lia))
  have nl:∀l:List Int,gA (l.map D.int)=true:=λl=>by induction l with |nil=>rfl |cons x l ih=>rw[List.map_cons];exact ih
  have nl2:gA (xD.map ∅)=true:=by
   clear h1 h2 h3 hp ih h2'
   induction xD with
   |nil=>rfl
   |cons x l ih=>rw[List.map_cons];show (iJ (~~~x)&&gA _)=true;rw[ih];simp[iJ,nl]
  have ng:jH [.dat (~~~u),.dat (.lst (xD.map ∅)),a2,‹a›,‹b›,a5]=true:=by
   have h5:jH [a2]=true/\jH [a5]=true:=by cases a2 <;> cases a5 <;> simp_all [jH]
   cases a2 <;> cases a5 <;> simp_all [jH,iJ]
  have x1:(rn (n+20)).e [] (k+1) (.call ti [(.ix ⇑0 ⇑3),(.ix ⇑0 ⇑4)]) [.dat (~~~u),.dat (.lst (xD.map ∅)),a2,‹a›,‹b›,a5]=some (.dat (~~~(fU u [a,b])),[.dat (~~~u),.dat (.lst (xD.map ∅)),a2,‹a›,‹b›,a5]):=by have t1:=Nv U (n:=n+11) (k:=k) (gt u a) (gt u b);simp! [U,cM (t:=u) (i:=a) ⋯,cM (t:=u) (i:=b) ⋯,hT,aE (fx:=Dh) rfl,t1,fU]
  have nx:iJ (~~~(fU u [a,b]))=true:=by simp[iJ,nl]
  have st:Tg.set (.tp [3,4]) (~~~[a,b]) [.dat (~~~u),.dat (.lst (xD.map ∅)),a2,a3,a4,a5]=some [.dat (~~~u),.dat (.lst (xD.map ∅)),a2,‹a›,‹b›,a5]:=rfl
  have ar:ku (rn (n+20)) [] (k+1) [⇑3,⇑4] [.dat (~~~u),.dat (.lst (xD.map ∅)),a2,‹a›,‹b›,a5]=some ([.int a,.int b],[.dat (~~~u),.dat (.lst (xD.map ∅)),a2,‹a›,‹b›,a5]):=by simp! [U,U.e]
  have ii:aR [.int a,.int b]=some [a,b]:=rfl;have evd:eE (rn (n+20)) [] (k+1) (.call ti [(.ix ⇑0 ⇑3),(.ix ⇑0 ⇑4)]) [.dat (~~~u),.dat (.lst (xD.map ∅)),a2,‹a›,‹b›,a5]=some (~~~(fU u [a,b]),[.dat (~~~u),.dat (.lst (xD.map ∅)),a2,‹a›,‹b›,a5]):=by unfold eE;rw[x1];rfl
  rw[List.map_cons];unfold Sx;rw[st];dsimp only;rw[ar];dsimp only;rw[ii];dsimp only;rw[evd];dsimp only;rw[fN ⟨by rw[hn,ng,nx];rfl,hlk,au 2 ⋯⟩]
  rw[nN]at ih;rw[wE]at ih;exact ih
variable(hA:fns[al]?=some (gF rf)){Z9:Fx}(hP:fns[pa]?=some Z9)
include hA hR hP
theorem Iw(m:Nat)(hm:1<=m/\m<=9)(u: ~~~0)(hu:u.length=m)(ps: ~~~5)(hps:aQ (rn (n+58)) (k+1) Z9 [.int m]=some (.new (ps.map ∅)))(hnp:Z9.np=1)(hp:∀p∈ps,∃a b:Int,p=[a,b]/\0<=a/\a<m/\0<=b/\b<m)(hnd:ps.Nodup)(hl:ps.length<=100)(hg:rZ (fU u) ps=true) :
  aQ (rn (n+60)) (k+2) (yS pa al ti) [~~~u]=some (.new ((rY (fU u) ps).map λr=>.tup (r.map ∅))):=by
 obtain⟨b3,b4,d⟩:=r9 U hT (n:=n+37) (k:=k+1) m u hu ps hp ps [] .no .no .no .no (λ_ h=>h) hnd hl rfl
 have d':pC (rn (n+57)) [] (k+2) 2 3 (.tp [3,4]) ⇑1 [⇑3,⇑4] (.call ti [(.ix ⇑0 ⇑3),(.ix ⇑0 ⇑4)]) [.dat (~~~u),.own (ps.map ∅)]=some ((ps,ps.map λp=>~~~(fU u p)),[.dat (~~~u),.dat (.lst (ps.map ∅))]):=by
  have hw:cD (rn (n+57)) [] (k+2) true ⇑1 [.dat (~~~u),.own (ps.map ∅)]=some (ps.map ∅,[.dat (~~~u),.dat (.lst (ps.map ∅))]):=by simp! [U,cD]
  unfold pC;rw[show Tg.eT (.tp [3,4])=true from rfl,hw]
  dsimp only;rw[fN ⟨rfl,rfl⟩];have dd:Sx (rn (n+57)) [] (k+2) (.tp [3,4]) [⇑3,⇑4] (.call ti [(.ix ⇑0 ⇑3),(.ix ⇑0 ⇑4)]) (ps.map ∅) [] [] (gD 3 [.dat (~~~u),.dat (.lst (ps.map ∅))])=_:=d
  rw[dd];rfl
 have a1:=Dj U hR (n:=n+18) (k:=k) (.vg ps (ps.map λp=>~~~(fU u p))) (fU u) ps (λp tF=>by
  show (match aR (p.map .int)with |some n=>O2 ps (ps.map λp=>~~~(fU u p)) n |none=>none)=_
  rw[ints_map];exact z9 (λp=>~~~(fU u p)) tF) hg hl
 unfold aQ yS;simp! [U,hu,hP,aJ (fx:=Z9) hnp,hps,d',hA,aE (fx:=gF rf) rfl,a1]
end
noncomputable def yU(i j:Int): ~~~0:=if i<j then [i,j]else [j,i]
theorem iT{i j:Int}(h:i≠j):yU i j=yU j i:=by unfold yU;split <;> split <;> first |rfl |lia
theorem yV(t: ~~~0)(a b:Int):tm t [a,b]=yU (gt t a) (gt t b):=kL t a b
theorem jR{i j:Int}(h:i<j):yU i j=[i,j]:=fN h
theorem Ul{m:Nat}{i j:Int}(hi:0<=i/\i<m)(hj:0<=j/\j<m)(h:i≠j):Pr m (yU i j):=by
 unfold yU;split
 . exact⟨_,_,rfl,by lia,by lia,by lia⟩
 . exact⟨_,_,rfl,by lia,by lia,by lia⟩
theorem Aa{m:Nat}{t: ~~~0}(ht:Tn m t){i j:Int}(hi:0<=i/\i<m)(hj:0<=j/\j<m)(h:i≠j):tm t (yU i j)=yU (gt t i) (gt t j):=by
 by_cases hl:i<j
 . rw[jR hl,yV]
 . rw[iT h,jR (show j<i by lia),yV,iT λe=>h (ht.inj hj hi e).symm]
def Um(i:Int)(x: ~~~0):Option Int:=if gt x 0=i then some (gt x 1)else if gt x 1=i then some (gt x 0)else none
def nb(i:Int)(ao: ~~~5): ~~~0:=ao.filterMap (Um i)
noncomputable def has(i:Int)(x: ~~~0):Bool:=decide (gt x 0=i)||decide (gt x 1=i)
theorem Iz(i:Int)(ao: ~~~5):(nb i ao).length=ao.countP (has i):=by
 induction ao with
 |nil=>rfl
 |cons x l ih=>
  unfold nb at ih ⊢
  rw[Ap,List.countP_cons];by_cases h1:gt x 0=i
  . simp[Um,has,h1,ih]
  .
   by_cases h2:gt x 1=i
   . simp[Um,has,h1,h2,ih]
   . simp[Um,has,h1,h2,ih]
theorem uA{m:Nat}{ao: ~~~5}(h:Wb m ao)(i y:Int):y∈nb i ao ↔ yU i y∈ao:=by
 unfold nb;rw[List.mem_filterMap];constructor
 .
  rintro⟨x,hx,e⟩;obtain⟨a,b,rfl,h1,h2,h3⟩:=h.tie x hx;unfold Um at e;rw[(bC a b).1,(bC a b).2]at e;split at e
  . rename_i q;cases e;subst q;rw[jR h2];exact hx
  .
   split at e
   . rename_i q;cases e;subst q;rw[iT ⋯,jR h2];exact hx
   . cases e
 .
  intro hx;refine⟨_,hx,?_⟩;unfold yU at hx ⊢
  unfold Um;split
  . rw[(bC i y).1,(bC i y).2,fN rfl]
  . rename_i q;rw[hU q]at hx;obtain⟨a,b,e,h1,h2,h3⟩:=h.tie _ hx;injection e with e1 e2;injection e2 with e2 _;subst e1 e2;rw[(bC y i).1,(bC y i).2,hU ⋯,fN rfl]
noncomputable def Nx(r h t: ~~~0):Bool:=decide (h.length=t.length)&&r.zipIdx.all λp=>decide ((p.2:Int)∈h)==decide (p.1∈t)
def uB(ao aH: ~~~5)(r: ~~~0)(x:Int):Bool:=Nx r (nb (r.length:Int) ao) (nb x aH)
def good(ao aH: ~~~5)(t: ~~~0):Bool:=(List.range t.length).all λi=>uB ao aH (t.take i) (t.getD i 0)
theorem Dk(ao aH: ~~~5)(r: ~~~0)(x:Int):good ao aH (r++[x])=(good ao aH r&&uB ao aH r x):=by
 unfold good;rw[eC,l5,List.range_succ,List.all_append]
 congr 1
 .
  rw[At,eM,eM];refine forall_congr' λi=>forall_congr' λhi=>?_
  have hi:=mI.mp hi;rw[List.take_append_of_le_length ⋯,gN,gN,dS hi]
 . simp[gN]
def ext(m:Nat)(l: ~~~5): ~~~5:=l.flatMap λr=>((nums m).filter λx=>!decide (x∈r)).map λx=>r++[x]
def d7(m:Nat):Nat->List (~~~0)
 | 0=>[[]]
 |s+1=>ext m (d7 m s)
def turnsOf(m:Nat): ~~~5:=d7 m m
def IK(m:Nat)(ao aH: ~~~5)(l: ~~~5): ~~~5:=l.flatMap λr=>((nums m).filter λx=>!decide (x∈r)&&uB ao aH r x).map λx=>r++[x]
theorem wV(m:Nat)(ao aH: ~~~5)(l: ~~~5):IK m ao aH (l.filter (good ao aH))=(ext m l).filter (good ao aH):=by
 induction l with
 |nil=>rfl
 |cons r l ih=>
  unfold IK ext at ih ⊢
  rw[AL,List.filter_append,<- ih,BE];have e:(((nums m).filter λx=>!decide (x∈r)).map λx=>r++[x]).filter (good ao aH)=if good ao aH r=true then ((nums m).filter λx=>!decide (x∈r)&&uB ao aH r x).map λx=>r++[x]else []:=by
   rw[List.filter_map];have:(good ao aH ∘ λx=>r++[x])=λx=>good ao aH r&&uB ao aH r x:=funext λx=>Dk ao aH r x
   rw[this,List.filter_filter];split
   .
    rename_i h
    congr 1
    refine List.filter_congr λx _=>?_
    rw[h,Bool.true_and,Bool.and_comm]
   .
    rename_i h;have hf:good ao aH r=false:=by simpa using h
    rw[List.map_eq_nil_iff,AU];intro x _;rw[hf];simp
  rw[e];split
  . rw[AL]
  . rfl
theorem mZ(m:Nat):∀s,(d7 m s).length<=m ^ s
 | 0=>eD 1
 |s+1=>by
  have ih:=mZ m s;have:∀l:List (~~~0),(ext m l).length<=l.length * m:=λl=>by
   induction l with
   |nil=>simp[ext]
   |cons r l ih=>
    unfold ext at ih ⊢
    rw[AL,eC,eA,i5,Nat.succ_mul];have:=Bi (λx=>!decide (x∈r)) (nums m)
    rw[gU]at this;lia
  exact kA (this _) (Nat.mul_le_mul_right m ih)
def Pj(m:Nat):Bool:=(turnsOf m).all (λt=>decide (bh t=nums m))&&decide ((turnsOf m).length<=720)
theorem okT1:Pj 1=true:=by decide +kernel
theorem okT2:Pj 2=true:=by decide +kernel
theorem okT3:Pj 3=true:=by decide +kernel
theorem okT4:Pj 4=true:=by decide +kernel
theorem okT5:Pj 5=true:=by decide +kernel
theorem okT6:Pj 6=true:=by decide +kernel
theorem qc{m:Nat}(hm:1<=m/\m<=6):(∀t∈turnsOf m,Tn m t)/\(turnsOf m).length<=720:=by
 have k:Pj m=true:=by
  obtain⟨h1,h2⟩:=hm
  match m,h1,h2 with
  | 1,_,_=>exact okT1
  | 2,_,_=>exact okT2
  | 3,_,_=>exact okT3
  | 4,_,_=>exact okT4
  | 5,_,_=>exact okT5
  | 6,_,_=>exact okT6
 unfold Pj at k;simp only[dE,eM,dL]at k;exact⟨λt ht=>k.1 t ht,k.2⟩
theorem IV{m:Nat}{ao aH: ~~~5}{t: ~~~0}(h:Wb m ao)(h':Wb m aH)(ht:Tn m t):good ao aH t=true ↔ tw t ao=aH:=by
 have hl:=ht.length;have g1:good ao aH t=true ↔ ∀i:Nat,i<m->((nb (i:Int) ao).length=(nb (gt t i) aH).length/\∀j:Nat,j<i->((j:Int)∈nb (i:Int) ao ↔ gt t j∈nb (gt t i) aH)):=by
  unfold good uB Nx;simp only[eM,mI,hl,dE,dL];refine forall_congr' λi=>forall_congr' λhi=>?_
  have e1:(t.take i).length=i:=by rw[u8];lia
  have e2:t.getD i 0=gt t i:=by simp[gt]
  rw[e1,e2];refine and_congr Iff.rfl ⟨λq j hj=>?_,λq p hp=>?_⟩
  .
   have hjl:j<t.length:=by lia
   have:=q (t[j],j) (by rw[List.mem_zipIdx_iff_getElem?];simp[hj,hjl])
   have e3:gt t j=t[j]:=by simp[gt,hjl]
   rw[e3];simpa using this
  .
   obtain⟨y,j⟩:=p;rw[List.mem_zipIdx_iff_getElem?]at hp;rw[List.getElem?_take]at hp;split at hp
   .
    rename_i hj;have hjl:j<t.length:=by lia
    have e3:gt t j=t[j]:=by simp[gt,hjl]
    rw[mB hjl]at hp;cases hp;have:=q j hj;rw[e3]at this;simpa using this
   . cases hp
 rw[g1];have hp:=bV (O:=dR) (ao.map (tm t));constructor
 .
  intro q;have key:∀i j:Int,(0<=i/\i<m)->(0<=j/\j<m)->i≠j->(yU i j∈ao ↔ yU (gt t i) (gt t j)∈aH):=λi j hi hj g7=>by
   have lt:∀i j:Int,(0<=i/\i<m)->(0<=j/\j<m)->j<i->(yU i j∈ao ↔ yU (gt t i) (gt t j)∈aH):=λi j hi hj hlt=>by
    have:=(q i.toNat ⋯).2 j.toNat ⋯;rw[Int.toNat_of_nonneg hi.1,Int.toNat_of_nonneg hj.1,uA h,uA h']at this;exact this
   rcases Int.lt_or_gt_of_ne g7 with hlt |hlt
   .
    rw[iT g7,iT λe=>g7 (ht.inj hi hj e)]
    exact lt j i hj hi hlt
   . exact lt i j hi hj hlt
  refine (jG (List.Perm.symm ?_) (h'.Z7.imp λ{x y} q=>jF.le_of_lt (O:=dR) q)).symm
  refine (BB (lP h.nodup λx hx y hy e=>uy ht (h.tie x hx) (h.tie y hy) e) h'.nodup).mpr λx=>?_
  rw[fR];constructor
  .
   rintro⟨y,hy,rfl⟩;obtain⟨a,b,rfl,h1,h2,h3⟩:=h.tie y hy;have:=(key a b ⋯ ⋯ ⋯).mp (by rw[jR h2];exact hy)
   rw[yV];exact this
  .
   intro hx;obtain⟨c,d,rfl,h1,h2,h3⟩:=h'.tie x hx;have YG:∀c:Int,0<=c/\c<m->∃a:Int,(0<=a/\a<m)/\gt t a=c:=λc hc=>by
    obtain⟨j,hj,e⟩:=C6 (ht.mem.mpr hc);exact⟨j,by lia,by simp[gt,hj,e]⟩
   obtain⟨a,ha,rfl⟩:=YG c ⋯;obtain⟨b,hb,rfl⟩:=YG d ⋯;have g7:a≠b:=λe=>by rw[e]at h2;lia
   have:=(key a b ha hb g7).mpr (by rw[jR h2];exact hx)
   exact⟨_,this,by rw[Aa ht ha hb g7,jR h2]⟩
 .
  rintro rfl i hi;have hi':0<=(i:Int)/\(i:Int)<m:=by lia
  constructor
  .
   rw[Iz,Iz];unfold tw;rw[hp.countP_eq,List.countP_map];refine (List.countP_congr λx hx=>?_)
   obtain⟨a,b,rfl,h1,h2,h3⟩:=h.tie x hx;have inj:∀j:Int,0<=j/\j<m->(gt t j=gt t i ↔ j=i):=λj hj=>⟨λe=>ht.inj hj hi' e,λe=>by rw[e]⟩
   show has i [a,b]=true ↔ has (gt t i) (tm t [a,b])=true;rw[kL];unfold has;have ia:=inj a ⋯;have ib:=inj b ⋯;split
   . rw[(bC a b).1,(bC a b).2,(bC (gt t a) (gt t b)).1,(bC (gt t a) (gt t b)).2];simp[ia,ib]
   . rw[(bC a b).1,(bC a b).2,(bC (gt t b) (gt t a)).1,(bC (gt t b) (gt t a)).2];simp[ia,ib];exact Or.comm
  .
   intro j hj;have hj':0<=(j:Int)/\(j:Int)<m:=by lia
   have g7:(i:Int)≠j:=by lia
   rw[uA h,uA h',<- Aa ht hi' hj' g7];unfold tw;rw[hp.mem_iff,fR];constructor
   . intro hx;exact⟨_,hx,rfl⟩
   . rintro⟨y,hy,e⟩;rw[<- uy ht (h.tie y hy) (Ul hi' hj' g7) e];exact hy
section
theorem qg{α:Type}{T:Tg}{last kk:Nat}{c:Option Ex}{e:Ex}(cF:α->D)(f:α->D)(p:α->Bool)(st:α->G->G)(I:G->Prop)(hI:∀m,I m->m.length=kk)(dg:last=g.length+kk)(eG:∀d m,I m->I (st d m)) :
  ∀(aj:List α) (m:G) (acc:List D),I m->acc.length+aj.length<=lim->
  (∀d∈aj,∀m acc,I m->T.set (cF d) (gM g m acc)=some (gM g (st d m) acc))->
  (∀d∈aj,∀m acc,I m->mR rn bor k c (gM g (st d m) acc)=some (p d,gM g (st d m) acc))->
  (∀d∈aj,p d=true->∀m acc,I m->eE rn bor k e (gM g (st d m) acc)=some (f d,gM g (st d m) acc))->
  ∃m',I m'/\yz rn bor k T last c e (aj.map cF) (gM g m acc)=some (gM g m' (acc++(aj.filter p).map f))
 | [],m,acc,hm,_,_,_,_=>⟨m,hm,by simp[yz]⟩
 |d::aj,m,acc,hm,hl,hT,hi,he=>by
  rw[i5]at hl;have q1:=hT d c8 m acc hm;have q2:=hi d c8 m acc hm;have hm':=eG d m hm;have hk:=hI _ hm';rw[List.map_cons];unfold yz;rw[q1];dsimp only;rw[q2];cases hp:p d with
  |false=>
   dsimp only;obtain⟨m',w1,w2⟩:=qg cF f p st I hI dg eG aj (st d m) acc hm' ⋯ (λx hx=>hT x (bP _ hx)) (λx hx=>hi x (bP _ hx)) (λx hx=>he x (bP _ hx))
   exact⟨m',w1,by rw[w2,BE,hp];rfl⟩
  |true=>
   have q3:=he d c8 hp m acc hm;dsimp only;rw[q3];dsimp only;have q4:(gM g (st d m) acc)[last]?=some (.own acc):=by rw[dg,<- hk];exact jh
   rw[q4];dsimp only;rw[fN ⋯];have q5:(gM g (st d m) acc).set last (.own (acc++[f d]))=gM g (st d m) (acc++[f d]):=by rw[dg,<- hk];exact iQ
   rw[q5];obtain⟨m',w1,w2⟩:=qg cF f p st I hI dg eG aj (st d m) (acc++[f d]) hm' (by rw[eC,l5];lia) (λx hx=>hT x (bP _ hx)) (λx hx=>hi x (bP _ hx)) (λx hx=>he x (bP _ hx))
   refine⟨m',w1,?_⟩;rw[w2,BE,hp];simp
theorem se{α β:Type}{kk nn j1 j2 last:Nat}{it:Ex}{c:Option Ex}{e:Ex}(bE:α->D)(ys:α->List β)(cE:β->D)(p:α->β->Bool)(f:α->β->D)(hn:nn=g.length)(dg:last=g.length+kk)(h11:g.length<=j1)(h12:j1<g.length+kk)(h21:g.length<=j2)(h22:j2<g.length+kk)(g7:j1≠j2) :
  ∀(xs:List α) (m:G) (acc:List D),m.length=kk->acc.length+(xs.flatMap ys).length<=lim->
  (∀a∈xs,∀G',um g j1 (bE a) G'->cD rn bor k false it G'=some ((ys a).map cE,G'))->
  (∀a∈xs,∀b∈ys a,∀G',iR g j1 j2 (bE a) (cE b) G'->mR rn bor k c G'=some (p a b,G'))->
  (∀a∈xs,∀b∈ys a,p a b=true->∀G',iR g j1 j2 (bE a) (cE b) G'->eE rn bor k e G'=some (f a b,G'))->
  ∃m',m'.length=kk/\v5 rn bor k (.nm j1) none (.nm j2) it c e last (xs.map bE) (gM g m acc)=some (gM g m' (acc++xs.flatMap λa=>((ys a).filter (p a)).map (f a)))
 | [],m,acc,hm,_,_,_,_=>⟨m,hm,by simp[v5]⟩
 |a::xs,m,acc,hm,hl,hw,hi,he=>by
  rw[AL,eC]at hl;have q1:(Tg.nm j1).set (bE a) (gM g m acc)=some (gM g (m.set (j1 - g.length) (.dat (bE a))) acc):=pR (kk:=kk) h11 ⋯;have hm1:(m.set (j1 - g.length) (.dat (bE a))).length=kk:=by simpa using hm
  have sees:∀(m:G) (acc:List D),m.length=kk->m[j1 - g.length]?=some (.dat (bE a))->um g j1 (bE a) (gM g m acc):=λm acc hm hg=>by
   refine⟨λi hi=>jg hi,?_⟩
   have:=dc (g:=g) (m:=m) (acc:=acc) (i:=j1 - g.length) ⋯;rw[show g.length+(j1 - g.length)=j1 by lia]at this
   rw[this,hg]
  have uM:(m.set (j1 - g.length) (.dat (bE a)))[j1 - g.length]?=some (.dat (bE a)):=by rw[hZ ⋯]
  have q2:=hw a c8 _ (sees _ acc hm1 uM);have Pn:∀(b:β) (m:G) (acc:List D),(m.length=kk/\m[j1 - g.length]?=some (.dat (bE a)))->iR g j1 j2 (bE a) (cE b) (gM g (m.set (j2 - g.length) (.dat (cE b))) acc):=λb m acc hm=>by
   obtain⟨s1,s2⟩:=sees (m.set (j2 - g.length) (.dat (cE b))) acc (by simpa using hm.1) (by rw[gL ⋯];exact hm.2)
   refine⟨s1,s2,?_⟩;have:=dc (g:=g) (m:=m.set (j2 - g.length) (.dat (cE b))) (acc:=acc) (i:=j2 - g.length) (by rw[xI,hm.1];lia)
   rw[show g.length+(j2 - g.length)=j2 by lia]at this
   rw[this,hZ (by rw[hm.1];lia)]
  obtain⟨m2,w1,w2⟩:=qg (rn:=rn) (bor:=bor) (k:=k) (g:=g) (T:=.nm j2) (last:=last) (kk:=kk) (c:=c) (e:=e) cE (f a) (p a) (λb m=>m.set (j2 - g.length) (.dat (cE b))) (λm=>m.length=kk/\m[j1 - g.length]?=some (.dat (bE a))) (λ_ h=>h.1) dg (λb m h=>⟨by simpa using h.1,by rw[gL ⋯];exact h.2⟩) (ys a) (m.set (j1 - g.length) (.dat (bE a))) acc ⟨hm1,uM⟩ ⋯
   (λb _ m acc h=>pR (kk:=kk) h21 (by have:=h.1;lia)) (λb hb m acc h=>hi a c8 b hb _ (Pn b m acc h)) λb hb hp m acc h=>he a c8 b hb hp _ (Pn b m acc h)
  have hf:=Bi (p a) (ys a);obtain⟨m3,v1,v2⟩:=se bE ys cE p f hn dg h11 h12 h21 h22 g7 xs m2 (acc++((ys a).filter (p a)).map (f a)) w1.1 (by rw[eC,eA];lia) (λx hx=>hw x (bP _ hx)) (λx hx=>hi x (bP _ hx)) (λx hx=>he x (bP _ hx))
  refine⟨m3,v1,?_⟩;rw[List.map_cons];unfold v5;rw[q1];dsimp only[mR,Tg.eT];rw[q2];dsimp only;rw[w2];dsimp only;rw[v2,AL,wE]
theorem Ad{α β:Type}{kk nn j1 j2:Nat}{ki it:Ex}{c:Option Ex}{e:Ex}(xs:List α)(bE:α->D)(ys:α->List β)(cE:β->D)(p:α->β->Bool)(f:α->β->D)(hw1:cD rn bor k false ki g=some (xs.map bE,g1))(hn:nn=g1.length)(h11:g1.length<=j1)(h12:j1<g1.length+kk)(h21:g1.length<=j2)(h22:j2<g1.length+kk)(g7:j1≠j2)(hb1:j1∉bor)(hb2:j2∉bor)(hl:(xs.flatMap ys).length<=lim)
  (hw:∀a∈xs,∀G',um g1 j1 (bE a) G'->cD rn bor k false it G'=some ((ys a).map cE,G'))
  (hi:∀a∈xs,∀b∈ys a,∀G',iR g1 j1 j2 (bE a) (cE b) G'->mR rn bor k c G'=some (p a b,G'))
  (he:∀a∈xs,∀b∈ys a,p a b=true->∀G',iR g1 j1 j2 (bE a) (cE b) G'->eE rn bor k e G'=some (f a b,G')) :
  jK rn bor k nn kk (.nm j1) ki none (.nm j2) it c e g=some (xs.flatMap λa=>((ys a).filter (p a)).map (f a),g1):=by
 subst hn;obtain⟨m',w1,w2⟩:=se (rn:=rn) (bor:=bor) (k:=k) (g:=g1) (it:=it) (c:=c) (e:=e) (last:=g1.length+kk) bE ys cE p f rfl rfl h11 h12 h21 h22 g7 xs (List.replicate kk .no) [] ⋯ (by simpa using hl) hw hi he
 unfold jK;rw[show Tg.eT (.nm j1)=false from rfl,hw1]
 dsimp only;rw[fN ⟨rfl,by simp[Tg.ix,hb1,hb2]⟩,HN,w2]
 dsimp only;have:∀acc,(gM g1 m' acc)[g1.length+kk]?=some (.own acc):=λacc=>by rw[<- w1];exact jh
 rw[this];dsimp only;rw[ug,AZ]
theorem wW{α β:Type}(ys:List β):∀xs:List α,(xs.flatMap λ_=>ys).length=xs.length * ys.length
 | []=>by simp
 |_::xs=>by rw[AL,eC,wW ys xs,i5,Nat.succ_mul,Nat.add_comm]
theorem Uo{α β:Type}{kk nn j1 j2:Nat}{ki it:Ex}{c:Option Ex}{e:Ex}(xs:List α)(bE:α->D)(ys:List β)(cE:β->D)(p:α->β->Bool)(f:α->β->D)(hw1:cD rn bor k false ki g=some (xs.map bE,g1))(hn:nn=g1.length)(h11:g1.length<=j1)(h12:j1<g1.length+kk)(h21:g1.length<=j2)(h22:j2<g1.length+kk)(g7:j1≠j2)(hb1:j1∉bor)(hb2:j2∉bor)(hl:xs.length * ys.length<=lim)
  (hw:∀a∈xs,∀G',um g1 j1 (bE a) G'->cD rn bor k false it G'=some (ys.map cE,G'))
  (hi:∀a∈xs,∀b∈ys,∀G',iR g1 j1 j2 (bE a) (cE b) G'->mR rn bor k c G'=some (p a b,G'))
  (he:∀a∈xs,∀b∈ys,p a b=true->∀G',iR g1 j1 j2 (bE a) (cE b) G'->eE rn bor k e G'=some (f a b,G')) :
  jK rn bor k nn kk (.nm j1) ki none (.nm j2) it c e g=some (xs.flatMap λa=>(ys.filter (p a)).map (f a),g1):=Ad xs bE (λ_=>ys) cE p f hw1 hn h11 h12 h21 h22 g7 hb1 hb2 (by rw[wW];exact hl) hw hi he
end
theorem qL{m:Nat}(F:Nat->~~~0)(a:Nat)(v: ~~~0):((List.range m).map λi=>(F i).map D.int).set a (v.map .int)=(List.range m).map λi=>(if i=a then v else F i).map D.int:=by
 refine List.ext_getElem ⋯ λi h1 h2=>?_
 rw[List.getElem_set];simp only[List.getElem_map,List.getElem_range];by_cases h:a=i
 . subst h;simp
 . rw[hU h,hU λe=>h e.symm]
theorem wX{m:Nat}:∀(ao: ~~~5) (F:Nat->~~~0) (c:Nat),(∀x∈ao,Pr m x)->(∀i,(F i).length<=c)->c+ao.length<=900->
  iI (ao.map ∅) ((List.range m).map λi=>(F i).map D.int)=some ((List.range m).map λi=>(F i++nb (i:Int) ao).map D.int)
 | [],F,c,_,_,_=>by simp[iI,nb]
 |x::ao,F,c,hx,hF,hc=>by
  obtain⟨a,b,rfl,h1,h2,h3⟩:=hx x c8;obtain⟨a,rfl⟩:∃n:Nat,a=n:=⟨a.toNat,by lia⟩
  obtain⟨b,rfl⟩:∃n:Nat,b=n:=⟨b.toNat,by lia⟩
  rw[i5]at hc;have ga:((List.range m).map λi=>(F i).map D.int)[a]?=some ((F a).map D.int):=by rw[tJ,C5 ⋯];rfl
  have la:((F a).map D.int).length<1000:=by rw[eA];have:=hF a;lia
  have e1:(F a).map D.int++[.int b]=(F a++[(b:Int)]).map D.int:=by rw[nN];rfl
  have gb:((List.range m).map λi=>(if i=a then F a++[(b:Int)]else F i).map D.int)[b]?=some ((F b).map D.int):=by rw[tJ,C5 ⋯];simp only[BO];rw[hU ⋯]
  have lb:((F b).map D.int).length<1000:=by rw[eA];have:=hF b;lia
  have e2:(F b).map D.int++[.int a]=(F b++[(a:Int)]).map D.int:=by rw[nN];rfl
  have q:vQ ((List.range m).map λi=>(F i).map D.int) (.tup [.int a,.int b])=some ((List.range m).map λi=>(if i=b then F b++[(a:Int)]else if i=a then F a++[(b:Int)]else F i).map D.int):=by
   unfold vQ;dsimp only;rw[fN (show (0:Int)<=a/\(0:Int)<=b by lia)]
   simp only[o6,ga,la,yA,e1,qL,gb,lb,e2]
  have ih:=wX ao (λi=>if i=b then F b++[(a:Int)]else if i=a then F a++[(b:Int)]else F i) (c+1) (λx hx'=>hx x (bP _ hx')) (λi=>by
   show (if i=b then F b++[(a:Int)]else if i=a then F a++[(b:Int)]else F i).length<=c+1
   have:=hF a;have:=hF b;have:=hF i;split
   . simp;lia
   .
    split
    . simp;lia
    .
     lia) ⋯
  have e3:List.map ∅ ([(a:Int),(b:Int)]::ao)=.tup [.int a,.int b]::ao.map λx=>~~~x:=rfl
  rw[e3];unfold iI;rw[q];dsimp only;rw[ih]
  congr 1
  refine mN λi hi=>?_
  congr 1
  unfold nb;rw[Ap];unfold Um;rw[(bC (a:Int) b).1,(bC (a:Int) b).2];by_cases q1:i=a
  . subst q1;rw[hU ⋯,fN rfl,fN rfl];simp
  .
   by_cases q2:i=b
   . subst q2;rw[fN rfl,hU ⋯,fN rfl];simp
   . rw[hU q2,hU q1,hU ⋯,hU ⋯]
noncomputable def sf:Fx:=⟨2,5,[(.rows 0 1 2 3 4)]⟩
noncomputable def sr:Fx:=⟨3,3,[(.ite (.cmp .NotEq (.blt .len [⇑1]) (.blt .len [⇑2])) (~~~4) []),(.ret (.blt .all [(.comp 3 3 (.tp [4,5]) (.enum ⇑0) none (.cmp .Eq (.cmp .In ⇑4 ⇑1) (.cmp .In ⇑5 ⇑2)))]))]⟩
noncomputable def iU(ro fi:Nat):Fx:=⟨2,7,[(.set 2 (.ix ⇑0 ↥0)),(.set 3 (.call ro [⇑2,(.ix ⇑0 ↥1)])),(.set 4 (.call ro [⇑2,(.ix ⇑1 ↥1)])),(.set 5 (.lst [(.tup [])])),(.loop (.nm 6) (.dD ⇑2) [(.setC 5 (.cK 7 3 (.nm 8) ⇑5 none (.nm 9) (.dD ⇑2) (some (.and [(.cmp .NotIn ⇑9 ⇑8),(.call fi [⇑8,(.ix ⇑3 ⇑6),(.ix ⇑4 ⇑9)])])) (.bin .Add ⇑8 (.tup [⇑9]))))]),(.ret ⇑5)]⟩
def Rw(m:Nat)(ao: ~~~5):D:=.lst ((List.range m).map λ(i:Nat)=>.lst ((nb (i:Int) ao).map .int))
section
variable{ro fi:Nat}(U:jt fns rn)
include U
theorem Ae(m:Nat)(hm:m<=6)(ao: ~~~5)(h:Wb m ao):aQ (rn (n+5)) k sf [.int m,.tup (ao.map ∅)]=some (.dat (Rw m ao)):=by
 have q:=wX (m:=m) ao (λ_=>[]) 0 h.tie (λ_=>eD 0) (by have:=h.len;lia)
 have e:(List.range m).map (λi=>List.map D.int ((λ_=>[]) i: ~~~0))=List.replicate m []:=by rw[List.eq_replicate_iff];simp
 rw[e]at q;have h0:(0:Int)<=m/\(m:Int)<=1000:=by lia
 unfold aQ sf;simp! [U,q,h0];unfold Rw;rw[List.map_map];simp
omit U in
theorem Up(x:Int)(l: ~~~0):fT .In (.int x) (.lst (l.map .int))=some (decide (x∈l)):=by
 have h:jJ (.int x) (l.map .int)=true:=by simp[jJ,iZ,dW,fj]
 simp only[fT,bx,h,yA]
 congr 1
 rw[At];simp[cP]
omit U in
theorem sy(x:Int)(l: ~~~0):fT .NotIn (.int x) (~~~l)=some (!decide (x∈l)):=by
 have h:jJ (.int x) (l.map .int)=true:=by simp[jJ,iZ,dW,fj]
 simp only[fT,bx,h,yA]
 congr 2
 rw[At];simp[cP]
omit U in
theorem IW(a b:Bool):fT .Eq (.bl a) (.bl b)=some (a==b):=rfl
omit U in
theorem sA:∀(l: ~~~0) ,mL (l.map .int)=l.zipIdx.map λp=>.tup [.int (p.2:Int),.int p.1]:=by intro l;unfold mL;rw[List.zipIdx_map,List.map_map];rfl
theorem Ny(r h t: ~~~0)(hr:r.length<=1000):aQ (rn (n+20)) k sr [~~~r,.lst (h.map .int),.lst (t.map .int)]=some (.dat (.bl (Nx r h t))):=by
 have w:=λn k=>uo (rn:=rn (n+10)) (bor:=[]) (k:=k) (g:=[.dat (~~~r),.dat (.lst (h.map .int)),.dat (.lst (t.map .int))]) (g1:=[.dat (~~~r),.dat (.lst (h.map .int)),.dat (.lst (t.map .int))]) (kk:=3) (nn:=3) (j1:=4) (j2:=5) (it:=.enum ⇑0) (e:=.cmp .Eq (.cmp .In ⇑4 ⇑1) (.cmp .In ⇑5 ⇑2)) r.zipIdx (λp=>.int (p.2:Int)) (λp=>.int p.1) (λp=>.bl (decide ((p.2:Int)∈h)==decide (p.1∈t))) (by simp! [U,cD,bx,sA]) rfl ⋯ ⋯ ⋯ ⋯ ⋯ ⋯ ⋯ (au _ (by simpa using hr)) λp hp G' hG=>by
  have h1:G'[1]?=some (.dat (.lst (h.map .int))):=hG.1 1 ⋯;have h2:G'[2]?=some (.dat (.lst (t.map .int))):=hG.1 2 ⋯;simp! [U,hG.2.1,hG.2.2,h1,h2,Up,IW]
 have e1:r.zipIdx.map (λp=>D.bl (decide ((p.2:Int)∈h)==decide (p.1∈t)))=(r.zipIdx.map λp=>decide ((p.2:Int)∈h)==decide (p.1∈t)).map .bl:=by rw[List.map_map];rfl
 have e2:(r.zipIdx.map λp=>decide ((p.2:Int)∈h)==decide (p.1∈t)).all id=r.zipIdx.all λp=>decide ((p.2:Int)∈h)==decide (p.1∈t):=by rw[Cs];rfl
 unfold aQ sr Nx;by_cases hl:h.length=t.length
 . simp! [U,w,e1,e2,hl]
 .
  have hl' : ¬ (h.length:Int)=t.length:=by lia
  simp! [U,hl,hl']
variable(hR:fns[ro]?=some sf)(hF:fns[fi]?=some sr)
include hR hF
theorem YH(m s:Nat)(hm:m<=6)(hs:s<m)(ao aH: ~~~5)(l: ~~~5)(hl:l.length<=50000)(hr:∀r∈l,r.length=s)(d0 d1:D):aK (rn (n+40)) [] (k+1) (.setC 5 (.cK 7 3 (.nm 8) ⇑5 none (.nm 9) (.dD ⇑2) (some (.and [(.cmp .NotIn ⇑9 ⇑8),(.call fi [⇑8,(.ix ⇑3 ⇑6),(.ix ⇑4 ⇑9)])])) (.bin .Add ⇑8 (.tup [⇑9])))) [.dat d0,.dat d1,‹m›,.dat (Rw m ao),.dat (Rw m aH),.own (l.map λr=>~~~r),‹s›]=some (.nx,[.dat d0,.dat d1,‹m›,.dat (Rw m ao),.dat (Rw m aH),.own ((IK m ao aH l).map λr=>~~~r),‹s›]):=by
 have hg:bK 0 m=(nums m).map .int:=iS m;have w:=Uo (rn:=rn (n+40)) (bor:=[]) (k:=k+1) (g:=[.dat d0,.dat d1,‹m›,.dat (Rw m ao),.dat (Rw m aH),.own (l.map λr=>~~~r),‹s›]) (g1:=[.dat d0,.dat d1,‹m›,.dat (Rw m ao),.dat (Rw m aH),.dat (.lst (l.map λr=>~~~r)),‹s›]) (nn:=7) (kk:=3) (j1:=8) (j2:=9) (ki:=.slot 5) (it:=.dD ⇑2) (c:=some (.and [(.cmp .NotIn ⇑9 ⇑8),(.call fi [⇑8,(.ix ⇑3 ⇑6),(.ix ⇑4 ⇑9)])])) (e:=.bin .Add ⇑8 (.tup [⇑9])) l (λr=>~~~r) (nums m) .int (λr x=>!decide (x∈r)&&uB ao aH r x) (λr x=>~~~(r++[x])) (by simp! [U,cD]) rfl ⋯ ⋯ ⋯ ⋯ ⋯ ⋯ ⋯ (by
   rw[gU];have:l.length * m<=50000 * 6:=Cf hl hm;exact kA this ⋯) (λr hr G' hG=>by
   have h2:G'[2]?=some ‹m›:=hG.1 2 ⋯;simp! [U,cD,h2,aD m ⋯,hg]) (λr hr' x hx G' hG=>by
   have h3:G'[3]?=some (.dat (Rw m ao)):=hG.1 3 ⋯;have h4:G'[4]?=some (.dat (Rw m aH)):=hG.1 4 ⋯;have h6:G'[6]?=some ‹s›:=hG.1 6 ⋯;have hx':=cN.mp hx;have i3:uO (Rw m ao) (.int s)=some (.lst ((nb (s:Int) ao).map .int)):=by
    show L2.eU _ _=_;rw[kJ _ _ (by simpa using hs)]
    simp
   have i4:uO (Rw m aH) (.int x)=some (.lst ((nb x aH).map .int)):=by
    obtain⟨x,rfl⟩:∃n:Nat,x=n:=⟨x.toNat,by lia⟩
    show L2.eU _ _=_;rw[kJ _ _ (by simp;lia)]
    simp
   have f:=λn k=>Ny U (n:=n) (k:=k) r (nb (s:Int) ao) (nb x aH) (by rw[hr r hr'];lia)
   unfold uB;rw[hr r hr'];by_cases hin:x∈r
   . simp! [U,mR,hG.2.1,hG.2.2,h3,h4,h6,i3,i4,sy,hin]
   .
    simp! [U,mR,hG.2.1,hG.2.2,h3,h4,h6,i3,i4,sy,hin,hF,bz (fx:=sr) rfl,f]) λr hr' x hx _ G' hG=>by
   have o:nI .Add (~~~r) (.tup [.int x])=some (.dat (~~~(r++[x]))):=by
    have hlr:(List.map D.int r).length+[D.int x].length<=lim:=au _ (by rw[eA,hr r hr'];simp;lia)
    simp only[nI,LR,hlr,yA,nN];rfl
   simp! [U,hG.2.1,hG.2.2,o,au 1 ⋯]
 have e:(l.flatMap λr=>((nums m).filter λx=>!decide (x∈r)&&uB ao aH r x).map λx=>~~~(r++[x]))=(IK m ao aH l).map λr=>~~~r:=by
  unfold IK;rw[List.map_flatMap]
  congr 1
  funext r
  rw[List.map_map];rfl
 rw[e]at w;simp only[aK,w];simp
theorem yW(m:Nat)(hm:1<=m/\m<=6)(ao aH: ~~~5)(h:Wb m ao)(h':Wb m aH):aQ (rn (n+60)) (k+2) (iU ro fi) [W m ao,W m aH]=some (.new (((turnsOf m).filter (good ao aH)).map λr=>~~~r)):=by
 have len:∀s r,r∈d7 m s->r.length=s:=λs=>by
  induction s with
  |zero=>intro r hr;cases eP.mp hr;rfl
  |succ s ih=>intro r hr;unfold d7 ext at hr;obtain⟨q,hq,hr⟩:=CL.mp hr;obtain⟨x,_,rfl⟩:=fR.mp hr;rw[eC,ih q hq];rfl
 have big:∀s,s<=m->(d7 m s).length<=50000:=λs hs=>kA (mZ m s) (kA (Nat.pow_le_pow_left hm.2 s) (kA (Nat.pow_le_pow_right ⋯ (show s<=6 by lia)) ⋯))
 have loop:=cQ (T:=.nm 6) (b:=(rn (n+59)).b [] (k+2) [(.setC 5 (.cK 7 3 (.nm 8) ⇑5 none (.nm 9) (.dD ⇑2) (some (.and [(.cmp .NotIn ⇑9 ⇑8),(.call fi [⇑8,(.ix ⇑3 ⇑6),(.ix ⇑4 ⇑9)])])) (.bin .Add ⇑8 (.tup [⇑9]))))]) (λ(j:Nat)=>D.int (j:Int))
  (I:=λl g=>∃(j:Nat) (s6:Slot),j<=m/\l=List.range' j (m - j)/\g=[.dat (W m ao),.dat (W m aH),‹m›,.dat (Rw m ao),.dat (Rw m aH),.own (((d7 m j).filter (good ao aH)).map λr=>~~~r),s6])
  (step:=λa l g h=>by
   obtain⟨j,s6,h0,h1,rfl⟩:=h;have Vy:j<m:=by
    rcases v6 j m with h |h
    . exact h
    . rw[A9 h]at h1;cases h1
   have hc:List.range' j (m - j)=j::List.range' (j+1) (m - (j+1)):=by rw[show m - j=(m - (j+1))+1 by lia,AC]
   rw[hc]at h1;injection h1 with e1 e2;subst e1 e2;have q:=YH U hR hF (n:=n+18) (k:=k+1) m a hm.2 Vy ao aH ((d7 m a).filter (good ao aH)) (kA (Bi _ _) (big a ⋯)) (λr hr=>len a r (i9.mp hr).1) (W m ao) (W m aH)
   rw[wV]at q;refine⟨_,_,rfl,?_,a+1,‹a›,by lia,rfl,rfl⟩
   rw[U.b];exact (aB (rest:=[]) q).trans rfl)
 obtain⟨g',⟨j,s6,h0,h1,rfl⟩,h2⟩:=loop (List.range' 0 m) [.dat (W m ao),.dat (W m aH),‹m›,.dat (Rw m ao),.dat (Rw m aH),.own [~~~[]],.no] ⟨0,.no,by lia,rfl,rfl⟩
 have hj:j=m:=by
  have:(List.range' j (m - j)).length=0:=by rw[<- h1];rfl
  rw[B0]at this;lia
 subst hj;have hr:bK 0 j=(List.range' 0 j).map λ(x:Nat)=>D.int (x:Int):=by unfold bK;rw[u7];exact mN λx _=>by rw[CD]
 have i0:uO (W j ao) (.int 0)=some (.int j):=rfl;have i1:uO (W j ao) (.int 1)=some (.tup (ao.map ∅)):=rfl
 have i2:uO (W j aH) (.int 1)=some (.tup (aH.map ∅)):=rfl
 have r1:=λn k=>Ae U (n:=n) (k:=k) j hm.2 ao h
 have r2:=λn k=>Ae U (n:=n) (k:=k) j hm.2 aH h'
 have t0:D.tup [] = ~~~[]:=rfl;unfold aQ iU turnsOf;simp! [U,i0,i1,i2,hR,aE (fx:=sf) rfl,r1,r2,au 0 ⋯,au 1 ⋯,Tg.ix,Tg.eT,cD,aD j ⋯,hr,t0,h2]
end
noncomputable def Ja(mw tt:Nat):Fx:=⟨1,1,[(.expr (.call mw [⇑0])),(.ret (.call tt [⇑0,⇑0]))]⟩
def led(m:Nat)(ao: ~~~5)(m':Nat)(aH: ~~~5): ~~~5:=(turnsOf m).filter λt=>decide (m=m'/\tw t ao=aH)
theorem Jb{m:Nat}(hm:1<=m/\m<=6){ao aH: ~~~5}(h:Wb m ao)(h':Wb m aH):(turnsOf m).filter (good ao aH)=led m ao m aH:=by
 refine List.filter_congr λt ht=>?_
 rw[At,IV h h' ((qc hm).1 t ht),dL];exact⟨λe=>⟨rfl,e⟩,λe=>e.2⟩
section
variable{wh wi it ri iw ci mw ro fi tt:Nat}(U:jt fns rn)
include U
variable(hW:fns[wh]?=some bM)(hI:fns[wi]?=some (bH wh))(qK:fns[it]?=some (jP wi))(YD:fns[ri]?=some yR)(Ph:fns[iw]?=some (jQ wi it ri))(YF:fns[mw]?=some (fM iw ci))(hR:fns[ro]?=some sf)(hF:fns[fi]?=some sr)(hTT:fns[tt]?=some (iU ro fi))
include hW hI qK YD Ph YF hR hF hTT
theorem Uq(m:Nat)(hm:1<=m/\m<=6)(ao: ~~~5)(h:Wb m ao):aQ (rn (n+90)) (k+8) (Ja mw tt) [W m ao]=some (.new ((led m ao m ao).map λr=>~~~r)):=by
 have q1:=λn k=>p9 (ci:=ci) U hW hI qK YD Ph (n:=n) (k:=k) m ao hm h
 have q3:=λn k=>yW U hR hF (n:=n) (k:=k) m hm ao ao h h
 rw[Jb hm h h]at q3;unfold aQ Ja;simp! [U,YF,aJ (fx:=fM iw ci) rfl,q1,hTT,aE (fx:=iU ro fi) rfl,q3]
end
noncomputable def gG:Fx:=⟨1,3,[(.set 1 (.lst [])),(.loop (.nm 2) (.dD ⇑0) [(.expr (.extend 1 (.comp 3 2 (.nm 4) (.cL (.bin .Add ⇑2 ↥1) ⇑0) none (.tup [⇑2,⇑4]))))]),(.ret ⇑1)]⟩
def Nz(ti:Nat):Option Ex:=some (.cmp .Lt (.call ti [⇑0,↥8]) (.ix (.lst [↥2,↥4,↥6]) (.bin .Mod ⇑3 ↥3)))
def NB:List Sm:=[(.expr (.append 4 (.blt .tuple [(.blt .sorted [(.lst [(.ix ⇑5 ⇑6),(.ix ⇑5 (.ix (.lst [(.bin .Sub ⇑6 ↥1),(.bin .Sub ⇑6 ↥1),↥0,(.bin .FloorDiv ⇑6 ↥2)]) (.bin .Sub ⇑3 ↥3)))])])])))]
def Jc:Sm:=.ite (.and [(.cmp .Eq ⇑3 ↥4),(.cmp .Gt ⇑2 ↥2)]) [(.expr (.append 4 (.blt .tuple [(.blt .sorted [(.lst [(.ix ⇑5 ↥0),(.ix ⇑5 (.bin .Sub ⇑2 ↥1))])])])))] []
noncomputable def NC(ti:Nat):Option Ex:=some (.cmp .Eq (.call ti [⇑0,↥12]) ↥0)
noncomputable def NK:Option Ex:=some (.cmp .NotEq (.cmp .In ⇑9 ⇑4) (.cmp .In ⇑9 ⇑7))
noncomputable def Ur(ti:Nat):Sm:=.set 2 (.blt .max [↥1,(.bin .Sub ⇑1 (.ix (.lst [↥0,↥4,↥1,↥0,↥2,↥1,↥3,⇑1]) (.call ti [⇑0,↥8])))])
def NP(ti pi:Nat):Sm:=.ite (.cmp .Gt ⇑3 ↥2) [(.set 4 (.lst [])),(.loop (.nm 6) (.cL ↥1 ⇑2) NB),Jc,(.set 7 (.comp 8 2 (.nm 9) (.call pi [⇑2]) (NC ti) ⇑9)),(.set 4 (.comp 8 2 (.nm 9) (.call pi [⇑2]) NK ⇑9))] []
def Dl(ti pi mi:Nat):Fx:=⟨2,8,[(Ur ti),(.set 3 (.call ti [⇑0,↥7])),(.set 4 (.comp 8 2 (.nm 9) (.call pi [⇑2]) (Nz ti) ⇑9)),(.set 5 (.call mi [⇑0,(.cT ⇑2)])),(NP ti pi),(.ret (.tup [⇑2,(.blt .tuple [(.blt .sorted [⇑4])])]))]⟩
noncomputable def lY(m a:Nat): ~~~5:=(List.range (m - (a+1))).map λ(j:Nat)=>[(a:Int),(a:Int)+1+(j:Int)]
def pacc(m j:Nat): ~~~5:=((List.range j).map (lY m)).flatten
theorem sC(m j:Nat):pacc m (j+1)=pacc m j++lY m j:=by simp[pacc,List.range_succ]
theorem wY(m:Nat):∀j,(pacc m j).length<=j * m
 | 0=>by simp[pacc]
 |j+1=>by
  rw[sC,eC,Nat.succ_mul];have:=wY m j;have h2:(lY m j).length<=m:=by simp[lY]
  lia
def prs(m:Nat): ~~~5:=pacc m m
def okP(m:Nat):Bool:=(prs m).all (λx=>match x with | [a,b]=>decide (0<=a)&&decide (a<b)&&decide (b<m) |_=>false)&&decide ((prs m).Nodup)&&decide ((prs m).length<=15)
theorem NQ{m:Nat}(hm:1<=m/\m<=6):okP m=true:=by
 obtain⟨h1,h2⟩:=hm
 match m,h1,h2 with
 | 1,_,_=>decide +kernel
 | 2,_,_=>decide +kernel
 | 3,_,_=>decide +kernel
 | 4,_,_=>decide +kernel
 | 5,_,_=>decide +kernel
 | 6,_,_=>decide +kernel
theorem iV{m:Nat}(hm:1<=m/\m<=6):(∀x∈prs m,Pr m x)/\(prs m).Nodup/\(prs m).length<=15:=by
 have:=NQ hm;unfold okP at this;simp only[dE,dL,eM]at this;obtain⟨⟨h1,h2⟩,h3⟩:=this;refine⟨λx hx=>?_,h2,h3⟩
 have:=h1 x hx;split at this
 . rename_i a b;simp only[dE,dL]at this;exact⟨a,b,rfl,this.1.1,this.1.2,this.2⟩
 . cases this
theorem Wb.Us{m:Nat}(hm:1<=m/\m<=6){l: ~~~5}(h:l.Sublist (prs m)):Wb m (cS dR l):=by
 obtain⟨h1,h2,h3⟩:=iV hm;have hp:=bV (O:=dR) l;refine⟨λx hx=>h1 x (h.subset (hp.mem_iff.mp hx)),jv (h.nodup h2),?_⟩
 rw[hp.length_eq];exact kA h.length_le h3
section
variable{ti pi mi:Nat}(U:jt fns rn)(hT:fns[ti]?=some cU)(hP:fns[pi]?=some gG)(hM:fns[mi]?=some (nJ ti))
include U
theorem qh(m:Nat)(hm:1<=m/\m<=6):aQ (rn (n+30)) k gG [.int m]=some (.new ((prs m).map ∅)):=by
 have loop:=cQ (T:=.nm 2) (b:=(rn (n+29)).b [] k [(.expr (.extend 1 (.comp 3 2 (.nm 4) (.cL (.bin .Add ⇑2 ↥1) ⇑0) none (.tup [⇑2,⇑4]))))]) (λ(j:Nat)=>D.int (j:Int))
  (I:=λl g=>∃(j:Nat) (s2:Slot),j<=m/\l=List.range' j (m - j)/\g=[‹m›,.own ((pacc m j).map ∅),s2])
  (step:=λa l g h=>by
   obtain⟨j,s2,h0,h1,rfl⟩:=h;have Vy:j<m:=by
    rcases v6 j m with h |h
    . exact h
    . rw[A9 h]at h1;cases h1
   have hc:List.range' j (m - j)=j::List.range' (j+1) (m - (j+1)):=by rw[show m - j=(m - (j+1))+1 by lia,AC]
   rw[hc]at h1;injection h1 with e1 e2;subst e1 e2;have aL:(pacc m a).length<=36:=kA (wY m a) (kA (Cf (show a<=6 by lia) hm.2) ⋯)
   have hlr:(lY m a).length<=6:=by simp[lY];lia
   have w:=eW (rn:=rn (n+26)) (bor:=[]) (k:=k) (g:=[‹m›,.own ((pacc m a).map ∅),‹a›]) (g1:=[‹m›,.own ((pacc m a).map ∅),‹a›]) (kk:=2) (nn:=3) (j:=4) (it:=.cL (.bin .Add ⇑2 ↥1) ⇑0) (e:=.tup [⇑2,⇑4]) (List.range (m - (a+1))) (λ(j:Nat)=>.int ((a:Int)+1+(j:Int))) (λ(j:Nat)=>.tup [.int (a:Int),.int ((a:Int)+1+(j:Int))]) (by
     have e:((m:Int) - ((a:Int)+1)).toNat=m - (a+1):=by lia
     simp! [U,cD,aD ((a:Int)+1) ⋯,aD m ⋯,e,bK]) rfl ⋯ ⋯ ⋯ (au _ (by simp;lia)) λx hx G' hG=>by
    have h2:G'[2]?=some ‹a›:=hG.1 2 ⋯;simp! [U,hG.2,h2,au 2 ⋯]
   have e3:(List.range (m - (a+1))).map (λ(j:Nat)=>D.tup [.int (a:Int),.int ((a:Int)+1+(j:Int))])=(lY m a).map λx=>~~~x:=by unfold lY;rw[List.map_map];rfl
   rw[e3]at w;have z:(pacc m a).length+(lY m a).length<=lim:=au _ ⋯;refine⟨[‹m›,.own ((pacc m a).map ∅),‹a›],[‹m›,.own ((pacc m (a+1)).map ∅),‹a›],rfl,?_,a+1,_,by lia,rfl,rfl⟩
   rw[sC,nN];simp! [U,w,z])
 obtain⟨g',⟨j,s2,h0,h1,rfl⟩,h2⟩:=loop (List.range' 0 m) [‹m›,.own [],.no] ⟨0,.no,by lia,rfl,rfl⟩
 have hj:j=m:=by
  have:(List.range' j (m - j)).length=0:=by rw[<- h1];rfl
  rw[B0]at this;lia
 subst hj;have hr:bK 0 j=(List.range' 0 j).map λ(x:Nat)=>D.int (x:Int):=by unfold bK;rw[u7];exact mN λx _=>by rw[CD]
 unfold aQ gG;simp! [U,Tg.ix,Tg.eT,cD,aD j ⋯,hr,h2];rfl
end
theorem cpS{rn:Rn}{bor:List Nat}{k:Nat}{α:Type}{kk nn j:Nat}{c:Option Ex}(cF:α->D)(gs:Int->G)(hn:∀s,(gs s).length=nn)(hj1:nn<=j)(hj2:j<nn+kk) :
  ∀(aj:List α) (s:Int) (m:G) (acc:List D),m.length=kk->acc.length+aj.length<=lim->
  (∀a∈aj,∀s m acc,m.length=kk->m[j - nn]?=some (.dat (cF a))->∃b s',mR rn bor k c (gM (gs s) m acc)=some (b,gM (gs s') m acc))->
  (∀a∈aj,∀s m acc,m.length=kk->m[j - nn]?=some (.dat (cF a))->eE rn bor k (.slot j) (gM (gs s) m acc)=some (cF a,gM (gs s) m acc))->
  ∃(sub:List α) (s':Int) (m':G),sub.Sublist aj/\m'.length=kk/\yz rn bor k (.nm j) (nn+kk) c (.slot j) (aj.map cF) (gM (gs s) m acc)=some (gM (gs s') m' (acc++sub.map cF))
 | [],s,m,acc,hm,_,_,_=>⟨[],s,m,y7 _,hm,by simp[yz]⟩
 |a::aj,s,m,acc,hm,hl,hc,he=>by
  rw[i5]at hl;have Vy:j - nn<m.length:=by lia
  have q1:(Tg.nm j).set (cF a) (gM (gs s) m acc)=some (gM (gs s) (m.set (j - nn) (.dat (cF a))) acc):=by
   have:=pR (g:=gs s) (kk:=kk) (j:=j) (d:=cF a) (m:=m) (acc:=acc) (by rw[hn];exact hj1) (by rw[hn];exact Vy)
   rw[hn]at this;exact this
  have hm':(m.set (j - nn) (.dat (cF a))).length=kk:=by simpa using hm
  have hg:(m.set (j - nn) (.dat (cF a)))[j - nn]?=some (.dat (cF a)):=by rw[hZ Vy]
  obtain⟨b,s',q2⟩:=hc a c8 s _ acc hm' hg;rw[List.map_cons];unfold yz;rw[q1];dsimp only;rw[q2];cases b with
  |false=>
   dsimp only;obtain⟨sub,s2,m2,w1,w2,w3⟩:=cpS cF gs hn hj1 hj2 aj s' _ acc hm' ⋯ (λx hx=>hc x (bP _ hx)) (λx hx=>he x (bP _ hx))
   exact⟨sub,s2,m2,w1.cons a,w2,w3⟩
  |true=>
   dsimp only;rw[he a c8 s' _ acc hm' hg];dsimp only;have q4:(gM (gs s') (m.set (j - nn) (.dat (cF a))) acc)[nn+kk]?=some (.own acc):=by have:=jh (g:=gs s') (m:=m.set (j - nn) (.dat (cF a))) (acc:=acc);rw[hn,hm']at this;exact this
   rw[q4];dsimp only;rw[fN ⋯];have q5:(gM (gs s') (m.set (j - nn) (.dat (cF a))) acc).set (nn+kk) (.own (acc++[cF a]))=gM (gs s') (m.set (j - nn) (.dat (cF a))) (acc++[cF a]):=by have:=iQ (g:=gs s') (m:=m.set (j - nn) (.dat (cF a))) (acc:=acc) (acc':=acc++[cF a]);rw[hn,hm']at this;exact this
   rw[q5];obtain⟨sub,s2,m2,w1,w2,w3⟩:=cpS cF gs hn hj1 hj2 aj s' _ (acc++[cF a]) hm' (by rw[eC,l5];lia) (λx hx=>hc x (bP _ hx)) (λx hx=>he x (bP _ hx))
   refine⟨a::sub,s2,m2,w1.cons_cons a,w2,?_⟩;rw[w3];simp
theorem Pp{rn:Rn}{bor:List Nat}{k:Nat}{α:Type}{kk nn j:Nat}{it:Ex}{c:Option Ex}{s:Int}{g:G}(aj:List α)(cF:α->D)(gs:Int->G)(hn:∀s,(gs s).length=nn)(hj1:nn<=j)(hj2:j<nn+kk)(hw:cD rn bor k false it g=some (aj.map cF,gs s))(hb:j∉bor)(hl:aj.length<=lim)
  (hc:∀a∈aj,∀s m acc,m.length=kk->m[j - nn]?=some (.dat (cF a))->∃b s',mR rn bor k c (gM (gs s) m acc)=some (b,gM (gs s') m acc))
  (he:∀a∈aj,∀s m acc,m.length=kk->m[j - nn]?=some (.dat (cF a))->eE rn bor k (.slot j) (gM (gs s) m acc)=some (cF a,gM (gs s) m acc)) :
  ∃(sub:List α) (s':Int),sub.Sublist aj/\eV rn bor k nn kk (.nm j) it c (.slot j) g=some (sub.map cF,gs s'):=by
 obtain⟨sub,s',m',w1,w2,w3⟩:=cpS (rn:=rn) (bor:=bor) (k:=k) (c:=c) cF gs hn hj1 hj2 aj s (List.replicate kk .no) [] ⋯ (by simpa using hl) hc he
 refine⟨sub,s',w1,?_⟩;unfold eV;rw[show (Tg.nm j).eT=false from rfl,hw]
 dsimp only;rw[fN ⟨hn s,by simp[Tg.ix,hb]⟩,HN,w3]
 dsimp only;have:(gM (gs s') m' ([]++sub.map cF))[nn+kk]?=some (.own ([]++sub.map cF)):=by have:=jh (g:=gs s') (m:=m') (acc:=[]++sub.map cF);rw[hn,w2]at this;exact this
 rw[this];dsimp only;have ht:=ug (g:=gs s') (m:=m') (acc:=[]++sub.map cF);rw[hn]at ht;rw[ht,AZ]
section
variable{ti pi mi:Nat}(U:jt fns rn)(hT:fns[ti]?=some cU)(hP:fns[pi]?=some gG)(hM:fns[mi]?=some (nJ ti))
include U
theorem sl9{f:G}{m:G}{acc:List D}{d:D}{j nn:Nat}(hf:f.length=nn)(hj:nn<=j)(hm:m[j - nn]?=some (.dat d)):eE (rn (n+1)) bor k (.slot j) (gM f m acc)=some (d,gM f m acc):=by
 have hlt:=(dA.mp hm).1;have:(gM f m acc)[j]?=some (.dat d):=by
  have:=dc (g:=f) (m:=m) (acc:=acc) (i:=j - nn) hlt;rw[hf,show nn+(j - nn)=j by lia]at this
  rw[this,hm]
 simp! [U,this]
def fr(s:Int)(fl:Bool)(a2 a3 a4 a5 a6 a7:Slot):G:=[St s fl,‹6›,a2,a3,a4,a5,a6,a7]
include hT in
theorem w1(s:Int)(fl:Bool):∃(m:Nat) (s':Int),(1<=m/\m<=6)/\aK (rn (n+40)) [0] (k+3) (Ur ti) (fr s fl .no .no .no .no .no .no)=some (.nx,fr s' fl ‹m› .no .no .no .no .no):=by
 obtain⟨r,s',r1,r2,q⟩:=gf U (n:=n+16) (k:=k+2) (g:=fr s fl .no .no .no .no .no .no) (i:=0) (s:=s) (fl:=fl) (m:=8) rfl ⋯;have q':bG (rn (n+36)) cU (k+2) [.var 0,‹8›] [St s fl,‹6›,.no,.no,.no,.no,.no,.no]=some (‹r›,[St s' fl,‹6›,.no,.no,.no,.no,.no,.no]):=q;obtain⟨v,hv,h0⟩:∃v:Int,(0<=v/\v<=6)/\L2.eU [D.int 0,.int 4,.int 1,.int 0,.int 2,.int 1,.int 3,.int 6] r=some (.int v):=by
  have:r=0\/r=1\/r=2\/r=3\/r=4\/r=5\/r=6\/r=7:=by lia
  rcases this with rfl |rfl |rfl |rfl |rfl |rfl |rfl |rfl <;> exact⟨_,by decide,rfl⟩
 refine⟨(if 6 - v > 1 then 6 - v else 1).toNat,s',?_,?_⟩
 . split <;> lia
 .
  have e:(((if 6 - v > 1 then 6 - v else 1).toNat:Nat):Int)=if 6 - v > 1 then 6 - v else 1:=by split <;> lia
  rw[e];unfold fr Ur;simp! [U,hT,q',h0,au 8 ⋯]
include hT in
theorem w2(s:Int)(fl:Bool)(a2:Slot):∃(w:Int) (s':Int),(0<=w/\w<7)/\aK (rn (n+40)) [0] (k+3) (.set 3 (.call ti [⇑0,↥7])) (fr s fl a2 .no .no .no .no .no)=some (.nx,fr s' fl a2 ‹w› .no .no .no .no):=by obtain⟨r,s',r1,r2,q⟩:=gf U (n:=n+19) (k:=k+2) (g:=fr s fl a2 .no .no .no .no .no) (i:=0) (s:=s) (fl:=fl) (m:=7) rfl ⋯;refine⟨r,s',⟨r1,r2⟩,?_⟩;have q':bG (rn (n+39)) cU (k+2) [.var 0,‹7›] [St s fl,‹6›,a2,.no,.no,.no,.no,.no]=some (‹r›,[St s' fl,‹6›,a2,.no,.no,.no,.no,.no]):=q;unfold fr;simp! [U,hT,q']
include hT hP in
theorem w3(s:Int)(fl:Bool)(m:Nat)(hm:1<=m/\m<=6)(w:Int)(hw:0<=w/\w<7):∃(sub: ~~~5) (s':Int),sub.Sublist (prs m)/\aK (rn (n+60)) [0] (k+3) (.set 4 (.comp 8 2 (.nm 9) (.call pi [⇑2]) (Nz ti) ⇑9)) (fr s fl ‹m› ‹w› .no .no .no .no)=some (.nx,fr s' fl ‹m› ‹w› (.own (sub.map ∅)) .no .no .no):=by
 have JD:=λn k=>qh U (n:=n) (k:=k) m hm
 obtain⟨_,_,aL⟩:=iV hm;obtain⟨v,hv⟩:∃v:Int,L2.eU [D.int 2,.int 4,.int 6] (w % 3)=some (.int v):=by
  have:w % 3=0\/w % 3=1\/w % 3=2:=by lia
  rcases this with e |e |e <;> rw[e] <;> exact⟨_,rfl⟩
 obtain⟨sub,s',h1,h2⟩:=Pp (rn:=rn (n+59)) (bor:=[0]) (k:=k+3) (kk:=2) (nn:=8) (j:=9) (it:=.call pi [⇑2]) (c:=Nz ti) (s:=s) (g:=fr s fl ‹m› ‹w› .no .no .no .no) (prs m) ∅ (λs=>fr s fl ‹m› ‹w› .no .no .no .no) (λ_=>rfl) ⋯ ⋯ (by unfold fr;simp! [U,cD,hP,aJ (fx:=gG) rfl,JD]) ⋯ (au _ ⋯) (λa _ s mm acc h1 h2=>by
   obtain⟨r,s',r1,r2,q⟩:=gf U (n:=n+37) (k:=k+2) (g:=gM (fr s fl ‹m› ‹w› .no .no .no .no) mm acc) (i:=0) (s:=s) (fl:=fl) (m:=8) rfl ⋯;have q':bG (rn (n+57)) cU (k+2) [.var 0,‹8›] (gM (fr s fl ‹m› ‹w› .no .no .no .no) mm acc)=some (‹r›,gM (fr s' fl ‹m› ‹w› .no .no .no .no) mm acc):=q;have g0:∀s,(gM (fr s fl ‹m› ‹w› .no .no .no .no) mm acc)[0]?=some (St s fl):=λ_=>rfl
   have g3:∀s,(gM (fr s fl ‹m› ‹w› .no .no .no .no) mm acc)[3]?=some ‹w›:=λ_=>rfl
   refine⟨decide (r<v),s',?_⟩;simp! [U,Nz,mR,hT,g0,g3,q',nY w 3 ⋯,hv,au 3 ⋯]) (λa _ s mm acc h1 h2=>sl9 U (n:=n+58) (nn:=8) rfl ⋯ h2)
 refine⟨sub,s',h1,?_⟩;simp only[aK,U.e,bw,h2];simp[fr]
end
def Ut(l: ~~~5)(x: ~~~0):Bool:=(l.map ∅).any λd=>cP d (~~~x)
theorem yX(l: ~~~5)(x: ~~~0):fT .In (~~~x) (.lst (l.map ∅))=some (Ut l x):=by
 have h:jJ (~~~x) (l.map ∅)=true:=by have:=lV l;simp only[jJ,iZ,dW,lU,dE,dL,true_and];lia
 simp only[fT,bx,h,yA];rfl
theorem Uu(a b:Bool):fT .NotEq (.bl a) (.bl b)=some (!(a==b)):=rfl
theorem Af(a b:Int):jS .sorted [.lst [.int a,.int b]]=some (.new ((bh [a,b]).map .int)):=mU [a,b] ⋯
section
variable{ti pi mi:Nat}(U:jt fns rn)(hT:fns[ti]?=some cU)(hP:fns[pi]?=some gG)(hM:fns[mi]?=some (nJ ti))
include U
include hT hM in
theorem w4(s:Int)(fl:Bool)(m:Nat)(hm:1<=m/\m<=6)(a3 a4:Slot):∃(row: ~~~0) (s':Int),row.length=m/\aK (rn (n+60)) [0] (k+3) (.set 5 (.call mi [⇑0,(.cT ⇑2)])) (fr s fl ‹m› a3 a4 .no .no .no)=some (.nx,fr s' fl ‹m› a3 a4 (.own (row.map .int)) .no .no):=by
 have hr:bK 0 m=(nums m).map .int:=iS m;have hl:=gU m;obtain⟨row,s',wJ,q⟩:=Ic U hT (n:=n+9) (k:=k+1) (g:=fr s fl ‹m› a3 a4 .no .no .no) (i:=0) (s:=s) (fl:=fl) (nums m) rfl ⋯;have q':bG (rn (n+59)) (nJ ti) (k+2) [.var 0,.dat (.lst ((nums m).map .int))] [St s fl,‹6›,‹m›,a3,a4,.no,.no,.no]=some (.new (row.map .int),[St s' fl,‹6›,‹m›,a3,a4,.no,.no,.no]):=q;refine⟨row,s',by rw[wJ.length_eq,hl],?_⟩
 unfold fr;simp! [U,hM,q',aD m ⋯,au m ⋯,hr]
theorem w5(s:Int)(fl:Bool)(m:Nat)(hm:1<=m/\m<=6)(w:Int)(hw:3<=w/\w<7)(row: ~~~0)(wJ:row.length=m)(a6 a7:Slot):∃(ao: ~~~5) (a6':Slot),ao.length<=m/\aK (rn (n+60)) [0] (k+3) (.loop (.nm 6) (.cL ↥1 ⇑2) NB) (fr s fl ‹m› ‹w› (.own []) (.own (row.map .int)) a6 a7)=some (.nx,fr s fl ‹m› ‹w› (.own (ao.map ∅)) (.own (row.map .int)) a6' a7):=by
 have loop:=cQ (T:=.nm 6) (b:=(rn (n+60)).b [0] (k+3) NB) (λ(j:Nat)=>D.int (1+(j:Int)))
  (I:=λl g=>∃(j:Nat) (ao: ~~~5) (s6:Slot),j<m/\l=List.range' j (m - 1 - j)/\ao.length<=j/\g=fr s fl ‹m› ‹w› (.own (ao.map ∅)) (.own (row.map .int)) s6 a7)
  (step:=λa l g h=>by
   obtain⟨j,ao,s6,h0,h1,h2,rfl⟩:=h;have Vy:j<m - 1:=by
    rcases v6 j (m - 1)with h |h
    . exact h
    . rw[A9 h]at h1;cases h1
   have hc:List.range' j (m - 1 - j)=j::List.range' (j+1) (m - 1 - (j+1)):=by rw[show m - 1 - j=(m - 1 - (j+1))+1 by lia,AC]
   rw[hc]at h1;injection h1 with e1 e2;subst e1 e2;obtain⟨z,hz⟩:∃z:Int,z=1+(a:Int):=⟨_,rfl⟩;rw[<- hz];obtain⟨v,hv,h3⟩:∃v:Int,(0<=v/\v<m)/\L2.eU [D.int (z - 1),.int (z - 1),.int 0,.int (z / 2)] (w - 3)=some (.int v):=by
    have:w=3\/w=4\/w=5\/w=6:=by lia
    rcases this with rfl |rfl |rfl |rfl
    . exact⟨z - 1,by lia,rfl⟩
    . exact⟨z - 1,by lia,rfl⟩
    . exact⟨0,by lia,rfl⟩
    . exact⟨z / 2,by lia,rfl⟩
   have a1:L2.eU (row.map D.int) z=some (.int (gt row z)):=cM ⋯;have a2:L2.eU (row.map D.int) v=some (.int (gt row v)):=cM ⋯;have z2:ao.length<lim:=fA (mE _) (au (ao.length+1) ⋯);refine⟨fr s fl ‹m› ‹w› (.own (ao.map ∅)) (.own (row.map .int)) ‹z› a7,fr s fl ‹m› ‹w› (.own ((ao++[bh [gt row z,gt row v]]).map ∅)) (.own (row.map .int)) ‹z› a7,rfl,?_,a+1,_,_,by lia,rfl,by rw[eC,l5];lia,rfl⟩
   rw[nN];unfold fr NB;simp! [U,a1,a2,h3,fZ _ _ (show (0:Int)<2/\(2:Int)<1073741824 by decide),Af,z2,au 4 ⋯,au 2 ⋯]
   rfl)
 obtain⟨g',⟨j,ao,s6,h0,h1,h2,rfl⟩,h3⟩:=loop (List.range' 0 (m - 1)) (fr s fl ‹m› ‹w› (.own []) (.own (row.map .int)) a6 a7) ⟨0,[],a6,by lia,rfl,by simp,rfl⟩
 have hr:bK 1 (m - 1)=(List.range' 0 (m - 1)).map λ(x:Nat)=>D.int (1+(x:Int)):=by unfold bK;rw[u7]
 refine⟨ao,s6,by lia,?_⟩
 have e:((m:Int) - 1).toNat=m - 1:=by lia
 unfold fr at h3 ⊢
 simp! [U,Tg.ix,Tg.eT,cD,aD 1 ⋯,aD m ⋯,e,hr,h3]
theorem w6(s:Int)(fl:Bool)(m:Nat)(hm:1<=m/\m<=6)(w:Int)(row: ~~~0)(wJ:row.length=m)(ao: ~~~5)(ht:ao.length<=m)(a6 a7:Slot):∃(aH: ~~~5),aK (rn (n+60)) [0] (k+3) Jc (fr s fl ‹m› ‹w› (.own (ao.map ∅)) (.own (row.map .int)) a6 a7)=some (.nx,fr s fl ‹m› ‹w› (.own (aH.map ∅)) (.own (row.map .int)) a6 a7):=by
 by_cases h4:w=4
 .
  by_cases h5:(m:Int) > 2
  . have a1:L2.eU (row.map D.int) 0=some (.int (gt row 0)):=cM ⋯;have a2:L2.eU (row.map D.int) ((m:Int) - 1)=some (.int (gt row ((m:Int) - 1))):=cM ⋯;have z2:ao.length<lim:=fA (mE _) (au (ao.length+1) ⋯);have h6:(2:Int)<m:=h5;refine⟨ao++[bh [gt row 0,gt row ((m:Int) - 1)]],?_⟩;rw[nN];unfold fr Jc;subst h4;simp! [U,a1,a2,h5,h6,Af,z2,au 2 ⋯];rfl
  . have h6 : ¬ (2:Int)<m:=h5;refine⟨ao,?_⟩;unfold fr Jc;subst h4;simp! [U,h5,h6]
 . refine⟨ao,?_⟩;unfold fr Jc;simp! [U,h4]
include hT hP in
theorem w7(s:Int)(fl:Bool)(m:Nat)(hm:1<=m/\m<=6)(a3 a4 a5 a6:Slot):∃(sub: ~~~5) (s':Int),aK (rn (n+60)) [0] (k+3) (.set 7 (.comp 8 2 (.nm 9) (.call pi [⇑2]) (NC ti) ⇑9)) (fr s fl ‹m› a3 a4 a5 a6 .no)=some (.nx,fr s' fl ‹m› a3 a4 a5 a6 (.own (sub.map ∅))):=by
 have JD:=λn k=>qh U (n:=n) (k:=k) m hm
 obtain⟨_,_,aL⟩:=iV hm;obtain⟨sub,s',h1,h2⟩:=Pp (rn:=rn (n+59)) (bor:=[0]) (k:=k+3) (kk:=2) (nn:=8) (j:=9) (it:=.call pi [⇑2]) (c:=NC ti) (s:=s) (g:=fr s fl ‹m› a3 a4 a5 a6 .no) (prs m) ∅ (λs=>fr s fl ‹m› a3 a4 a5 a6 .no) (λ_=>rfl) ⋯ ⋯ (by unfold fr;simp! [U,cD,hP,aJ (fx:=gG) rfl,JD]) ⋯ (au _ ⋯) (λa _ s mm acc h1 h2=>by
   obtain⟨r,s',r1,r2,q⟩:=gf U (n:=n+37) (k:=k+2) (g:=gM (fr s fl ‹m› a3 a4 a5 a6 .no) mm acc) (i:=0) (s:=s) (fl:=fl) (m:=12) rfl ⋯;have q':bG (rn (n+57)) cU (k+2) [.var 0,‹12›] (gM (fr s fl ‹m› a3 a4 a5 a6 .no) mm acc)=some (‹r›,gM (fr s' fl ‹m› a3 a4 a5 a6 .no) mm acc):=q;have g0:∀s,(gM (fr s fl ‹m› a3 a4 a5 a6 .no) mm acc)[0]?=some (St s fl):=λ_=>rfl
   refine⟨decide (r=0),s',?_⟩;simp! [U,NC,mR,hT,g0,q']) (λa _ s mm acc h1 h2=>sl9 U (n:=n+58) (nn:=8) rfl ⋯ h2)
 refine⟨sub,s',?_⟩;simp only[aK,U.e,bw,h2];simp[fr]
include hP in
theorem w8(s:Int)(fl:Bool)(m:Nat)(hm:1<=m/\m<=6)(ao odd: ~~~5)(a3 a5 a6:Slot):∃(sub: ~~~5),sub.Sublist (prs m)/\aK (rn (n+60)) [0] (k+3) (.set 4 (.comp 8 2 (.nm 9) (.call pi [⇑2]) NK ⇑9)) (fr s fl ‹m› a3 (.own (ao.map ∅)) a5 a6 (.own (odd.map ∅)))=some (.nx,fr s fl ‹m› a3 (.own (sub.map ∅)) a5 a6 (.own (odd.map ∅))):=by
 have JD:=λn k=>qh U (n:=n) (k:=k) m hm
 obtain⟨_,_,aL⟩:=iV hm;have w:=rM (rn:=rn (n+59)) (bor:=[0]) (k:=k+3) (g:=fr s fl ‹m› a3 (.own (ao.map ∅)) a5 a6 (.own (odd.map ∅))) (g1:=fr s fl ‹m› a3 (.own (ao.map ∅)) a5 a6 (.own (odd.map ∅))) (kk:=2) (nn:=8) (j:=9) (it:=.call pi [⇑2]) (c:=NK) (e:=.slot 9) (prs m) ∅ (λx=>!(Ut ao x==Ut odd x)) ∅ (by unfold fr;simp! [U,cD,hP,aJ (fx:=gG) rfl,JD]) rfl (by simp[fr]) (by simp[fr]) ⋯ (au _ ⋯)
  (λa _ G' hG=>by
   have h4:G'[4]?=some (.own (ao.map ∅)):=hG.1 4 (by simp[fr])
   have h7:G'[7]?=some (.own (odd.map ∅)):=hG.1 7 (by simp[fr])
   simp! [U,NK,mR,hG.2,h4,h7,yX,Uu])
  (λa _ _ G' hG=>by simp! [U,hG.2])
 refine⟨(prs m).filter λx=>!(Ut ao x==Ut odd x),List.filter_sublist,?_⟩
 simp only[aK,U.e,bw,w];simp[fr]
end
section
variable{ti pi mi:Nat}(U:jt fns rn)(hT:fns[ti]?=some cU)(hP:fns[pi]?=some gG)(hM:fns[mi]?=some (nJ ti))
include U
include hT hP in
theorem w9(s:Int)(fl:Bool)(m:Nat)(hm:1<=m/\m<=6)(w:Int)(hw:0<=w/\w<7)(row: ~~~0)(wJ:row.length=m)(uC: ~~~5)(hs:uC.Sublist (prs m)):∃(sub: ~~~5) (s':Int) (a6 a7:Slot),sub.Sublist (prs m)/\aK (rn (n+62)) [0] (k+3) (NP ti pi) (fr s fl ‹m› ‹w› (.own (uC.map ∅)) (.own (row.map .int)) .no .no)=some (.nx,fr s' fl ‹m› ‹w› (.own (sub.map ∅)) (.own (row.map .int)) a6 a7):=by
 by_cases Ow:w > 2
 .
  obtain⟨t1,a6,h1,q1⟩:=w5 U (n:=n+1) (k:=k) s fl m hm w ⋯ row wJ .no .no;obtain⟨t2,q2⟩:=w6 U (n:=n+1) (k:=k) s fl m hm w row wJ t1 h1 a6 .no;obtain⟨odd,s',q3⟩:=w7 U hT hP (n:=n+1) (k:=k) s fl m hm ‹w› (.own (t2.map ∅)) (.own (row.map .int)) a6
  obtain⟨sub,h4,q4⟩:=w8 U hP (n:=n+1) (k:=k) s' fl m hm t2 odd ‹w› (.own (row.map .int)) a6;refine⟨sub,s',a6,.own (odd.map ∅),h4,?_⟩
  have ht:(rn (n+62)).t [0] (k+3) (.cmp .Gt ⇑3 ↥2) (fr s fl ‹m› ‹w› (.own (uC.map ∅)) (.own (row.map .int)) .no .no)=some (true,fr s fl ‹m› ‹w› (.own (uC.map ∅)) (.own (row.map .int)) .no .no):=by unfold fr;simp! [U,Ow]
  have q0:aK (rn (n+61)) [0] (k+3) (.set 4 (.lst [])) (fr s fl ‹m› ‹w› (.own (uC.map ∅)) (.own (row.map .int)) .no .no)=some (.nx,fr s fl ‹m› ‹w› (.own []) (.own (row.map .int)) .no .no):=by unfold fr;simp! [U,U.e]
  unfold NP;rw[aK];rw[ht];dsimp only;rw[U.b];rw[aB q0,aB q1,aB q2,aB q3,aB q4];rfl
 . refine⟨uC,s,.no,.no,hs,?_⟩;unfold fr NP;simp! [U,Ow]
include hT hP hM in
theorem Uv{i:Nat}{s:Int}{fl:Bool}(hi:g[i]?=some (St s fl)):∃(m:Nat) (ao: ~~~5) (s':Int),(1<=m/\m<=6)/\Wb m ao/\bG (rn (n+80)) (Dl ti pi mi) (k+3) [.var i,‹6›] g=some (.dat (W m ao),g.set i (St s' fl)):=by
 obtain⟨m,s1,hm,q1⟩:=w1 U hT (n:=n+39) (k:=k) s fl;obtain⟨w,s2,hw,q2⟩:=w2 U hT (n:=n+39) (k:=k) s1 fl ‹m›;obtain⟨uC,s3,h3,q3⟩:=w3 U hT hP (n:=n+19) (k:=k) s2 fl m hm w hw;obtain⟨row,s4,h4,q4⟩:=w4 U hT hM (n:=n+19) (k:=k) s3 fl m hm ‹w› (.own (uC.map ∅))
 obtain⟨sub,s5,a6,a7,h5,q5⟩:=w9 U hT hP (n:=n+17) (k:=k) s4 fl m hm w hw row h4 uC h3;obtain⟨p1,p2,p3⟩:=iV hm;have hso:=fH sub (λx hx=>by obtain⟨a,b,rfl,_⟩:=p1 x (h5.subset hx);exact List.cons_ne_nil _ _) (Nat.lt_of_le_of_lt (kA h5.length_le p3) ⋯)
 refine⟨m,cS dR sub,s5,hm,Wb.Us hm h5,?_⟩;have hp:gn (Dl ti pi mi).n [St s fl,‹6›]=fr s fl .no .no .no .no .no .no:=rfl;have body:(rn (n+80)).b [0] (k+3) (Dl ti pi mi).body (fr s fl .no .no .no .no .no .no)=some (.rt (.dat (W m (cS dR sub))),fr s5 fl ‹m› ‹w› (.own (sub.map ∅)) (.own (row.map .int)) a6 a7):=by unfold Dl;rw[U.b,aB q1,aB q2,aB q3,aB q4,aB q5];unfold fr;simp! [U,hso,au 2 ⋯];rfl
 unfold bG;simp only[vars,eu,hi,List.map_cons,List.map_nil];rw[fN ⟨rfl,by simp⟩,hp,body]
 rfl
end
theorem nh(m:Nat):∀(s:Nat) (r: ~~~0),r.length=s->r.Nodup->(∀x∈r,x∈nums m)->r∈d7 m s
 | 0,r,h,_,_=>by
  rw[List.length_eq_zero_iff.mp h];exact B1 []
 |s+1,r,h,hn,hm=>by
  obtain⟨a,x,rfl⟩:∃a x,r=a++[x]:=⟨r.dropLast,r.getLast (by rintro rfl;symm),(AX _).symm⟩
  rw[eC,l5]at h;rw[y8]at hn;unfold d7 ext;rw[CL];refine⟨a,nh m s a ⋯ hn.1 λy hy=>hm y (u4 _ hy),?_⟩
  rw[fR];refine⟨x,i9.mpr ⟨hm x (i7 _ (B1 x)),?_⟩,rfl⟩;rw[Bool.not_eq_true',decide_eq_false_iff_not];exact λhx=>hn.2.2 x hx x (B1 x) rfl
theorem ni{m:Nat}{t: ~~~0}(h:Tn m t):t∈turnsOf m:=nh m m t h.length h.nodup λx hx=>cN.mpr (h.mem.mp hx)
theorem Ag{m:Nat}{x: ~~~0}(h:Pr m x):x∈prs m:=by obtain⟨a,b,rfl,h1,h2,h3⟩:=h;unfold prs pacc;rw[List.mem_flatten];refine⟨lY m a.toNat,fR.mpr ⟨a.toNat,mI.mpr ⋯,rfl⟩,?_⟩;unfold lY;rw[fR];refine⟨(b - a - 1).toNat,mI.mpr ⋯,?_⟩;rw[show ((a.toNat:Nat):Int)=a by lia,show a+1+(((b - a - 1).toNat:Nat):Int)=b by lia]
noncomputable def uD(nx: ~~~0->~~~0): ~~~5->Bool
 |x::y::l=>decide (y=nx x)&&uD nx (y::l)
 |_=>true
def eX(m:Nat)(t: ~~~0):List (~~~5):=rY (fU t) (prs m)
def JF(m:Nat)(t: ~~~0):Bool:=rZ (fU t) (prs m)&&decide ((eX m t).flatten.Nodup)&&((prs m).all λp=>(eX m t).any λr=>decide (p∈r)&&decide (fU t p∈r)&&r.any λq=>decide (fU t q=p))&&(eX m t).all (uD (fU t))&&decide ((eX m t).length<=15)
theorem uE{m:Nat}{x: ~~~0}(t: ~~~0)(h:Pr m x):fU t x=tm t x:=by obtain⟨a,b,rfl,_⟩:=h;rfl
theorem qi{nx: ~~~0->~~~0}{ao: ~~~5}:∀{r: ~~~5},(∀x∈r,(x∈ao ↔ nx x∈ao))->uD nx r=true->(∀x∈r,x∈ao)\/(∀x∈r,x∉ao)
 | [],_,_=>.inl λx hx=>by cases hx
 | [a],h,_=>by
  by_cases e:a∈ao
  . exact .inl λx hx=>by rw[eP.mp hx];exact e
  . exact .inr λx hx=>by rw[eP.mp hx];exact e
 |a::b::l,h,hc=>by
  unfold uD at hc;rw[dE,dL]at hc;have ha:=h a c8;rw[<- hc.1]at ha;rcases qi (λx hx=>h x (bP _ hx)) hc.2 with q |q
  . exact .inl λx hx=>(d6.mp hx).elim (λe=>by rw[e];exact ha.mpr (q b c8)) (q x)
  . exact .inr λx hx=>(d6.mp hx).elim (λe=>by rw[e];exact λz=>q b c8 (ha.mp z)) (q x)
noncomputable def wZ(ao: ~~~5)(r: ~~~5):Nat:=(r.filter λx=>decide (x∈ao)).length
def yZ(ao: ~~~5)(r: ~~~5):Bool:=decide (0<wZ ao r)&&decide (wZ ao r<r.length)
theorem Dm{m:Nat}{t: ~~~0}{ao: ~~~5}(hm:1<=m/\m<=6)(ht:Tn m t)(h:Wb m ao)(ok:JF m t=true):(eX m t).filter (yZ ao)=[] ↔ tw t ao=ao:=by
 unfold JF at ok;simp only[dE,eM,BD,dL]at ok;obtain⟨⟨⟨⟨o1,o2⟩,o3⟩,o4⟩,o5⟩:=ok;have hp:=bV (O:=dR) (ao.map (tm t));rw[AU];constructor
 .
  intro q;have whole:∀r∈eX m t,∀x∈r,x∈ao->∀y∈r,y∈ao:=λr hr x hx hxt y hy=>by
   have:=q r hr;unfold yZ wZ at this;simp only[dE,dL,not_and]at this;have h0:0<(r.filter λx=>decide (x∈ao)).length:=List.length_pos_of_mem (i9.mpr ⟨hx,l7 hxt⟩)
   have h1:=this h0;have h2:(r.filter λx=>decide (x∈ao))=r:=List.filter_sublist.eq_of_length_le ⋯
   rw[<- h2]at hy;exact l9 (i9.mp hy).2
  refine (jG (List.Perm.symm ?_) (h.Z7.imp λ{x y} q=>jF.le_of_lt (O:=dR) q)).symm
  refine (BB (lP h.nodup λx hx y hy e=>uy ht (h.tie x hx) (h.tie y hy) e) h.nodup).mpr λx=>?_
  rw[fR];constructor
  . rintro⟨y,hy,rfl⟩;obtain⟨r,hr,⟨r1,r2⟩,_⟩:=o3 y (Ag (h.tie y hy));rw[<- uE t (h.tie y hy)];exact whole r hr y r1 hy _ r2
  . intro hx;obtain⟨r,hr,⟨r1,_⟩,y,hy,e⟩:=o3 x (Ag (h.tie x hx));have hyt:=whole r hr x r1 hx y hy;exact⟨y,hyt,by rw[<- uE t (h.tie y hyt)];exact e⟩
 .
  intro e r hr;have hg:∀x∈r,Pr m x:=λx hx=>by
   unfold eX rY at hr;obtain⟨p,hpp,rfl⟩:=fR.mp (i9.mp hr).1;exact (iV hm).1 x ((fO o1 hpp).2.2.2.1 x hx)
  have key:∀x∈r,(x∈ao ↔ fU t x∈ao):=λx hx=>by
   rw[uE t (hg x hx)]
   conv=>rhs;rw[<- e]
   unfold tw;rw[hp.mem_iff,fR];constructor
   . intro z;exact⟨x,z,rfl⟩
   . rintro⟨y,hy,e2⟩;rw[<- uy ht (h.tie y hy) (hg x hx) e2];exact hy
  unfold yZ wZ;simp only[dE,dL,not_and];rcases qi key (o4 r hr)with z |z
  .
   rw[List.filter_eq_self.mpr λx hx=>l7 (z x hx)]
   lia
  .
   rw[AU.mpr λx hx=>by rw[dL];exact z x hx]
   intro q;cases q
theorem Jd{α:Type}{l r:List (List α)}(h:l.Sublist r):l.flatten.Sublist r.flatten:=by
 induction h with
 |slnil=>exact y7 _
 |cons a _ ih=>rw[tP];exact ih.trans (List.sublist_append_right _ _)
 |cons_cons a _ ih=>rw[tP,tP];exact (y7 a).append ih
theorem qj{m:Nat}{t: ~~~0}(hm:1<=m/\m<=6)(ok:JF m t=true){l:List (~~~5)}(h:l.Sublist (eX m t)):Wb m (cS dR l.flatten):=by
 unfold JF at ok;simp only[dE,dL]at ok;obtain⟨⟨⟨⟨o1,o2⟩,o3⟩,o4⟩,o5⟩:=ok;have hs:l.flatten.Sublist (eX m t).flatten:=Jd h;have hn:=hs.nodup o2;have hg:∀x∈l.flatten,x∈prs m:=λx hx=>by
  obtain⟨r,hr,hx⟩:=List.mem_flatten.mp (hs.subset hx);unfold eX rY at hr;obtain⟨p,hpp,rfl⟩:=fR.mp (i9.mp hr).1;exact (fO o1 hpp).2.2.2.1 x hx
 have hp:=bV (O:=dR) l.flatten;refine⟨λx hx=>(iV hm).1 x (hg x (hp.mem_iff.mp hx)),jv hn,?_⟩
 rw[hp.length_eq];exact kA (hn.length_le_of_subset hg) (iV hm).2.2
def Je(g:G)(kk j:Nat)(d:D)(G':G):Prop:=um g j d G'/\G'.length=g.length+kk+1
theorem Uw{rn:Rn}{bor:List Nat}{k:Nat}{g g1:G}{α:Type}{kk nn j:Nat}{it:Ex}{c:Option Ex}{e:Ex}(aj:List α)(cF:α->D)(p:α->Bool)(f:α->D)(hw:cD rn bor k false it g=some (aj.map cF,g1))(hn:nn=g1.length)(hj1:g1.length<=j)(hj2:j<g1.length+kk)(hb:j∉bor)(hl:aj.length<=lim)
  (hi:∀a∈aj,∀G',Je g1 kk j (cF a) G'->mR rn bor k c G'=some (p a,G')) (he:∀a∈aj,p a=true->∀G',Je g1 kk j (cF a) G'->eE rn bor k e G'=some (f a,G')) :
  eV rn bor k nn kk (.nm j) it c e g=some ((aj.filter p).map f,g1):=by
 have sees:∀(a:α) (m:G) (acc:List D),m.length=kk->Je g1 kk j (cF a) (gM g1 (m.set (j - g1.length) (.dat (cF a))) acc):=λa m acc hm=>by
  refine⟨⟨λi hi=>jg hi,?_⟩,?_⟩
  .
   have:=dc (g:=g1) (m:=m.set (j - g1.length) (.dat (cF a))) (acc:=acc) (i:=j - g1.length) (by simp;lia)
   rw[show g1.length+(j - g1.length)=j by lia]at this
   rw[this,hZ ⋯]
  . unfold gM;simp[hm];lia
 refine lO (T:=.nm j) aj cF f p (λa m=>m.set (j - g1.length) (.dat (cF a))) hw hn (by simp[Tg.ix,hb]) hl (λd m hm=>by simpa using hm) (λa _ m acc hm=>pR (kk:=kk) hj1 ⋯) (λa ha m acc hm=>hi a ha _ (sees a m acc hm)) λa ha hp m acc hm=>he a ha hp _ (sees a m acc hm)
theorem fy{T:Tg}{b:G->Option (Fl×G)}{d:D}{l:List D}{g g0 g1:G}(h0:T.set d g=some g0)(h:b g0=some (.nx,g1)):dj T b (d::l) g=dj T b l g1:=by
 conv=>lhs;unfold dj
 rw[h0];dsimp only;rw[h]
def NR:Fx:=⟨1,1,[(.ret (.cK 1 3 (.nm 2) (.dD ⇑0) none (.nm 3) (.cL (.bin .Add ⇑2 ↥1) ⇑0) none (.tup [⇑2,⇑3])))]⟩
def Jf:Fx:=⟨2,4,[(.set 2 ↥1),(.loop (.nm 3) (.dD ⇑1) [(.aug 2 .Mult ⇑0)]),(.ret ⇑2)]⟩
def xg:Fx:=⟨1,3,[(.set 1 ↥1),(.loop (.nm 2) (.cL ↥1 (.bin .Add ⇑0 ↥1)) [(.aug 1 .Mult ⇑2)]),(.ret ⇑1)]⟩
section
variable{k n:Nat}{rn:Nat->Rn}{fns:List Fx}(U:jt fns rn)
include U
theorem Jg(m:Nat)(hm:m<=9)(hl:(prs m).length<=100):aQ (rn (n+20)) k NR [.int m]=some (.new ((prs m).map ∅)):=by
 have e0:(prs m).map ∅=(List.range m).flatMap λa=>((List.range (m - (a+1))).map λ(b:Nat)=>(a:Int)+1+(b:Int)).map λy=>~~~[(a:Int),y]:=by
  unfold prs pacc lY;rw[List.map_flatten,List.map_map,List.flatMap]
  congr 1
  refine mN λa _=>?_
  show List.map _ (List.map _ _)=_;rw[List.map_map,List.map_map];rfl
 have hl':((List.range m).flatMap λa=>(List.range (m - (a+1))).map λ(b:Nat)=>(a:Int)+1+(b:Int)).length<=lim:=by
  refine au _ (kA (Nat.le_of_eq ?_) (kA hl ⋯));unfold prs pacc lY;rw[List.flatMap,List.length_flatten,List.length_flatten,List.map_map,List.map_map]
  congr 1
  refine mN λa _=>?_
  simp
 have w:=Ad (rn:=rn (n+18)) (bor:=[]) (k:=k) (g:=[‹m›]) (g1:=[‹m›]) (kk:=3) (nn:=1) (j1:=2) (j2:=3) (ki:=.dD ⇑0) (it:=.cL (.bin .Add ⇑2 ↥1) ⇑0) (c:=none) (e:=.tup [⇑2,⇑3]) (List.range m) (λ(a:Nat)=>D.int (a:Int)) (λa=>(List.range (m - (a+1))).map λ(b:Nat)=>(a:Int)+1+(b:Int)) D.int (λ_ _=>true) (λa y=>~~~[(a:Int),y]) (by
  have hr:bK 0 m=(List.range m).map λ(j:Nat)=>D.int (j:Int):=by unfold bK;exact mN λx _=>by rw[CD]
  simp! [U,cD,aD (m:Int) ⋯,hr]) rfl ⋯ ⋯ ⋯ ⋯ ⋯ ⋯ ⋯ hl' (λa ha G' hG=>by
  have h0:G'[0]?=some ‹m›:=hG.1 0 ⋯;have h2:=hG.2;rw[mI]at ha;have e1:((m:Int) - ((a:Int)+1)).toNat=m - (a+1):=by lia
  have e2:bK ((a:Int)+1) (m - (a+1))=((List.range (m - (a+1))).map λ(b:Nat)=>(a:Int)+1+(b:Int)).map .int:=by unfold bK;rw[List.map_map];rfl
  simp! [U,cD,h0,h2,aD (m:Int) ⋯,aD ((a:Int)+1) ⋯,e1,e2]) (λa _ b _ G' _=>rfl) (λa ha b hb _ G' hG=>by
  have h1:=hG.2.1;have h2:=hG.2.2;simp! [U,h1,h2];rfl)
 simp only[filter_all]at w;rw[e0];unfold aQ NR;simp! [U,w]
theorem Ux(b:Int)(m:Nat)(hb : -(2 ^ 64)<b/\b<2 ^ 64)(hm:m<=1000):aQ (rn (n+20)) k Jf [.int b,.int m]=some (.dat (.int (b ^ m))):=by
 have lp:∀(l:List Nat) (c:Int) (a3:Slot),∃b3,dj (.nm 3) ((rn (n+19)).b [] k [(.aug 2 .Mult ⇑0)]) (l.map λ(j:Nat)=>D.int (j:Int)) [‹b›,‹m›,‹c›,a3]=some (.nx,[‹b›,‹m›,.dat (.int (c * b ^ l.length)),b3]):=λl=>by
  induction l with
  |nil=>intro c a3;exact⟨a3,by simp[dj]⟩
  |cons x l ih=>
   intro c a3;obtain⟨b3,w⟩:=ih (c * b) (.dat (.int (x:Int)));refine⟨b3,?_⟩;have e:CG .Mult (.int c) (.int b)=some (.int (c * b)):=by
    have:jI c b=true:=by unfold jI;simp only[sK,dE,dL];exact .inr hb
    show (if jI c b=true then _ else _)=_
    rw[fN this]
   have q:(rn (n+19)).b [] k [(.aug 2 .Mult ⇑0)] [‹b›,‹m›,‹c›,.dat (.int (x:Int))]=some (.nx,[‹b›,‹m›,.dat (.int (c * b)),.dat (.int (x:Int))]):=by simp! [U,e]
   rw[List.map_cons,fy (rfl:(Tg.nm 3).set _ _=_) q,w,i5,Int.pow_succ,Int.mul_assoc,Int.mul_comm b]
 obtain⟨b3,w⟩:=lp (List.range m) 1 .no;rw[An,Int.one_mul]at w;generalize hb:(rn (n+19)).b [] k [(.aug 2 .Mult ⇑0)]=bb at w;unfold aQ Jf;simp! [U,cD,Tg.ix,Tg.eT,aD (m:Int) ⋯,bK,hb,w]
theorem y9(m:Nat)(hm:m<=9):aQ (rn (n+20)) k xg [.int m]=some (.dat (.int (fL m))):=by
 obtain⟨g',⟨i,b2,hi,hl,rfl⟩,w⟩:=cQ (T:=.nm 2) (b:=(rn (n+19)).b [] k [(.aug 1 .Mult ⇑2)]) (λ(j:Nat)=>D.int (1+(j:Int)))
  (I:=λl g=>∃(i:Nat) (b2:Slot),i<=m/\l=List.range' i (m - i)/\g=[‹m›,.dat (.int (fL i)),b2])
  (step:=λa l g h=>by
   obtain⟨i,b2,hi,hl,rfl⟩:=h;cases hmi:m - i with
   |zero=>rw[hmi]at hl;cases hl
   |succ q=>
    rw[hmi,AC]at hl;obtain⟨rfl,rfl⟩:=List.cons.inj hl;have e:CG .Mult (.int (fL a)) (.int (1+(a:Int)))=some (.int (fL (a+1))):=by
     have:jI (fL a) (1+(a:Int))=true:=by unfold jI;simp only[sK,dE,dL];right;lia
     show (if jI (fL a) (1+(a:Int))=true then _ else _)=_
     rw[fN this];show _=some (D.int (fL a * ((a+1:Nat):Int)));rw[show 1+(a:Int)=((a+1:Nat):Int)by lia]
    refine⟨_,_,rfl,?_,a+1,.dat (.int (1+(a:Int))),by lia,by rw[show m - (a+1)=q by lia],rfl⟩
    show (rn (n+19)).b [] k _ [‹m›,.dat (.int (fL a)),.dat (.int (1+(a:Int)))]=_;simp! [U,e]) (List.range m) [‹m›,‹1›,.no] ⟨0,.no,by lia,by rw[u7];rfl,rfl⟩
 have hmi:m - i=0:=by have:=congrArg List.length hl;rw[B0]at this;exact this.symm
 have hi':i=m:=by lia
 subst hi';generalize hb:(rn (n+19)).b [] k [(.aug 1 .Mult ⇑2)]=bb at w;have e1:((i:Int)+1 - 1).toNat=i:=by lia
 unfold aQ xg;simp! [U,cD,Tg.ix,Tg.eT,aD 1 ⋯,aD ((i:Int)+1) ⋯,bK,e1,hb,w]
end
noncomputable def Uy: ~~~0->~~~0->List Int
 | [],acc=>acc
 |n::t,acc=>Uy t (acc++(List.range (n.toNat - 1)).map (λi=>((acc.length+1+i:Nat):Int))++[(acc.length:Int)])
def uP(t: ~~~0): ~~~0:=Uy t []
noncomputable def Pq: ~~~0->List Int
 | []=>[]
 |a::l=>List.replicate ((a.toNat - 1) / 2) a++(if a.toNat % 2=0 then [a / 2]else [])++(l.flatMap λb=>List.replicate (Nat.gcd a.toNat b.toNat) ((Nat.lcm a.toNat b.toNat:Nat):Int))++Pq l
def fP(rs:List (~~~5)): ~~~0:=rs.map λr=>(r.length:Int)
def bq(t: ~~~0): ~~~0:=(bh (Pq t)).reverse
noncomputable def Jh: ~~~0->~~~0->List Int
 | [],acc=>acc
 |l::ls,acc=>Jh ls (List.zipWith (· + ·) (acc++List.replicate l.toNat 0) (List.replicate l.toNat 0++acc))
def bO(t: ~~~0): ~~~0:=Jh (bq t) [1]
def Ji(mk om:Nat):Fx:=⟨2,5,[(.expr (.call mk [⇑0,⇑1])),(.set 2 ↥1),(.loop (.tp [3,4]) (.enum ⇑1) [(.aug 2 .Mult (.bin .Mult ⇑4 (.meth .count (.slice ⇑1 none (some (.bin .Add ⇑3 ↥1))) ⇑4)))]),(.ret (.bin .FloorDiv (.call om [⇑0]) ⇑2))]⟩
def YJ:Fx:=⟨1,4,[(.set 1 (.lst [])),(.loop (.nm 2) ⇑0 [(.set 3 (.blt .len [⇑1])),(.aug 1 .Add (.fY (.bin .Add ⇑3 ↥1) (.bin .Add ⇑3 ⇑2))),(.expr (.append 1 ⇑3))]),(.ret (.blt .tuple [⇑1]))]⟩
def sD(mk ro tw:Nat):Fx:=⟨2,2,[(.expr (.call mk [⇑0,⇑1])),(.ret (.blt .tuple [(.gR (.comp 2 2 (.nm 3) (.call ro [(.call tw [⇑1])]) none (.blt .len [⇑3])))]))]⟩
noncomputable def Vz(po pl:Nat):Fx:=⟨2,2,[(.ret (.call po [↥2,(.blt .len [(.call pl [⇑0,⇑1])])]))]⟩
def YK(pl:Nat):Fx:=⟨2,5,[(.set 2 (.lst [↥1])),(.loop (.nm 3) (.call pl [⇑0,⇑1]) [(.set 4 (.bin .Mult (.lst [↥0]) ⇑3)),(.setC 2 (.comp 5 3 (.tp [6,7]) (.zip (.bin .Add ⇑2 ⇑4) (.bin .Add ⇑4 ⇑2)) none (.bin .Add ⇑6 ⇑7)))]),(.ret ⇑2)]⟩
def VB(ak tm sm om:Nat):Fx:=⟨1,2,[(.setC 1 (.comp 2 2 (.nm 3) (.call ak [⇑0]) none (.bin .Mult (.call tm [⇑0,⇑3]) (.call sm [⇑0,⇑3])))),(.ret (.bin .FloorDiv (.blt .sum [⇑1]) (.call om [⇑0])))]⟩
def wbX(ak tm sb om:Nat):Fx:=⟨1,5,[(.set 1 (.call ak [⇑0])),(.set 2 (.bin .Mult (.lst [↥0]) (.bin .Add (.bin .FloorDiv (.bin .Mult ⇑0 (.bin .Sub ⇑0 ↥1)) ↥2) ↥1))),(.loop (.nm 3) ⇑1 [(.set 4 (.call tm [⇑0,⇑3])),(.setC 2 (.comp 5 3 (.tp [6,7]) (.zip ⇑2 (.call sb [⇑0,⇑3])) none (.bin .Add ⇑6 (.bin .Mult ⇑4 ⇑7))))]),(.ret (.comp 5 2 (.nm 6) ⇑2 none (.bin .FloorDiv ⇑6 (.call om [⇑0]))))]⟩
def Pu(j:Nat)(t: ~~~0):Bool:=decide ((uP t).length=j)&&rZ (fU (uP t)) (prs j)&&decide (bh (fP (eX j (uP t)))=bh (Pq t))&&decide ((Pq t).length<=36)&&decide (t.length<=9)&&t.all (λa=>decide (1<=a/\a<=9))&&decide (0<fB [] t/\fB [] t<1073741824)&&(bq t).all (λl=>decide (0<=l/\l<=36))&&decide (1+(bq t).sum<=100)&&decide (0<=cnt j t/\cnt j t<=1000000)
structure Kd(j:Nat)(t: ~~~0):Prop where
 hj:1<=j/\j<=9
 ht:t∈kinds j
 tl:(uP t).length=j
 gp:rZ (fU (uP t)) (prs j)=true
 so:bh (fP (eX j (uP t)))=bh (Pq t)
 cl:(Pq t).length<=36
 le:t.length<=9
 pa:∀a∈t,1<=a/\a<=9
 dv:0<fB [] t/\fB [] t<1073741824
 pl:∀l∈bq t,0<=l/\l<=36
 su:1+(bq t).sum<=100
 cn:0<=cnt j t/\cnt j t<=1000000
theorem Kd.of{j:Nat}{t: ~~~0}(hj:1<=j/\j<=9)(ht:t∈kinds j)(h:Pu j t=true):Kd j t:=by unfold Pu at h;simp only[dE,dL,eM]at h;obtain⟨⟨⟨⟨⟨⟨⟨⟨⟨h1,h2⟩,h3⟩,h4⟩,h5⟩,h6⟩,h7⟩,h8⟩,h9⟩,h10⟩:=h;exact⟨hj,ht,h1,h2,h3,h4,h5,h6,h7,h8,h9,h10⟩
theorem Dn(t: ~~~0):(bq t).length=(Pq t).length:=by unfold bq;rw[AR,(bL _).length_eq]
section
variable{k n:Nat}{g g1:G}{rn:Nat->Rn}{fns:List Fx}(U:jt fns rn)
include U
omit U in
theorem Jj(l: ~~~0)(x:Int):X5 .count (~~~l) (.int x)=some (.int ((l.count x:Nat):Int)):=by
 have h1:jJ (.int x) (l.map .int)=true:=by simp[jJ,iZ,dW,fj]
 show (if jJ (.int x) (l.map .int)=true then some (D.int ((l.map D.int).countP λd=>cP d (.int x):Nat))else none)=_
 rw[fN h1,List.countP_map]
 congr 2
theorem YL(t: ~~~0)(hp:∀a∈t,1<=a/\a<=9)(hl:t.length<=9):aQ (rn (n+20)) k YJ [~~~t]=some (.dat (~~~(uP t))):=by
 have lp:∀(l acc: ~~~0) (a2 a3:Slot),(∀a∈l,1<=a/\a<=9)->acc.length+9 * l.length<=100->∃b2 b3,dj (.nm 2) ((rn (n+19)).b [] k [(.set 3 (.blt .len [⇑1])),(.aug 1 .Add (.fY (.bin .Add ⇑3 ↥1) (.bin .Add ⇑3 ⇑2))),(.expr (.append 1 ⇑3))]) (l.map .int) [.dat (~~~t),.own (acc.map .int),a2,a3]=some (.nx,[.dat (~~~t),.own ((Uy l acc).map .int),b2,b3]):=λl=>by
  induction l with
  |nil=>intro acc a2 a3 _ _;exact⟨a2,a3,rfl⟩
  |cons a l ih=>
   intro acc a2 a3 hp hl;have ha:=hp a c8;rw[i5]at hl;obtain⟨b2,b3,w⟩:=ih (acc++(List.range (a.toNat - 1)).map (λi=>((acc.length+1+i:Nat):Int))++[(acc.length:Int)]) ‹a› (.dat (.int (acc.length:Int))) (λx hx=>hp x (bP _ hx)) (by
    rw[eC,eC,eA,An,l5];lia)
   refine⟨b2,b3,?_⟩;have q:(rn (n+19)).b [] k [(.set 3 (.blt .len [⇑1])),(.aug 1 .Add (.fY (.bin .Add ⇑3 ↥1) (.bin .Add ⇑3 ⇑2))),(.expr (.append 1 ⇑3))] [.dat (~~~t),.own (acc.map .int),‹a›,a3]=some (.nx,[.dat (~~~t),.own ((acc++(List.range (a.toNat - 1)).map (λi=>((acc.length+1+i:Nat):Int))++[(acc.length:Int)]).map .int),‹a›,.dat (.int (acc.length:Int))]):=by
    have e1:(((acc.length:Int)+a) - ((acc.length:Int)+1)).toNat=a.toNat - 1:=by lia
    have e2:bK ((acc.length:Int)+1) (a.toNat - 1)=((List.range (a.toNat - 1)).map (λi=>((acc.length+1+i:Nat):Int))).map .int:=by unfold bK;rw[List.map_map];exact mN λx _=>by show D.int _=D.int _;congr 1
    have l1:=au (a.toNat - 1) ⋯;have l2:=au (acc.length+(a.toNat - 1)) ⋯;have l3:acc.length+(a.toNat - 1)<lim:=au (acc.length+(a.toNat - 1)+1) ⋯;simp! [U,aD ((acc.length:Int)+1) ⋯,aD ((acc.length:Int)+a) ⋯,e1,e2,l1,l2,l3];rfl
   rw[List.map_cons,fy (rfl:(Tg.nm 2).set _ _=_) q];exact w
 obtain⟨b2,b3,w⟩:=lp t [] .no .no hp (by rw[AY];lia)
 generalize hb:(rn (n+19)).b [] k [(.set 3 (.blt .len [⇑1])),(.aug 1 .Add (.fY (.bin .Add ⇑3 ↥1) (.bin .Add ⇑3 ⇑2))),(.expr (.append 1 ⇑3))]=bb at w;rw[List.map_nil]at w;unfold aQ YJ uP;simp! [U,cD,Tg.ix,Tg.eT,hb,w]
variable{mk om ro tw pl po ik mw w wi fa ci cj al ti rf pa:Nat}(hW:fns[w]?=some bM)(hF:fns[fa]?=some ju)(hI:fns[wi]?=some (bH w))(hM:fns[mw]?=some (cg wi ci))(hK:fns[ik]?=some (cY mw w fa))(YM:fns[mk]?=some (dX ik cj))
include hW hF hI hM hK YM
theorem Uz(hO:fns[om]?=some xg){j:Nat}{t: ~~~0}(K:Kd j t):aQ (rn (n+60)) (k+6) (Ji mk om) [.int j,~~~t]=some (.dat (.int (cnt j t))):=by
 have q0:=λn k=>mY U hW hF hI hM hK (n:=n) (k:=k) (cj:=cj) j K.hj t K.ht (by have:=K.le;lia)
 have q1:=λn k=>y9 U (n:=n) (k:=k) j (by have:=K.hj;lia)
 have lp:∀(l b: ~~~0) (c:Int) (a3 a4:Slot),t=b++l->∃b3 b4,dj (.tp [3,4]) ((rn (n+59)).b [] (k+6) [(.aug 2 .Mult (.bin .Mult ⇑4 (.meth .count (.slice ⇑1 none (some (.bin .Add ⇑3 ↥1))) ⇑4)))]) ((l.zipIdx b.length).map λp=>.tup [.int (p.2:Int),.int p.1]) [‹j›,.dat (~~~t),‹c›,a3,a4]=some (.nx,[‹j›,.dat (~~~t),.dat (.int (c * fB b l)),b3,b4]):=λl=>by
  induction l with
  |nil=>intro b c a3 a4 _;exact⟨a3,a4,by simp[dj,fB]⟩
  |cons a l ih=>
   intro b c a3 a4 ht;obtain⟨b3,b4,w⟩:=ih (b++[a]) (c * (a * (((b++[a]).count a:Nat):Int))) (.dat (.int (b.length:Int))) ‹a› (by rw[ht,wE];rfl)
   refine⟨b3,b4,?_⟩;have ha:=K.pa a (by rw[ht];simp)
   have hl:=K.le;rw[ht,eC,i5]at hl;have hc:(b++[a]).count a<=9:=kA List.count_le_length (by rw[eC,l5];lia)
   have e1:=cR a (((b++[a]).count a:Nat):Int) (.inl ⟨by lia,by lia⟩)
   generalize hN:(((b++[a]).count a:Nat):Int)=N at w e1;have R7:0<=N/\N<=9:=by lia
   have e2:CG .Mult (.int c) (.int (a * N))=some (.int (c * (a * N))):=by
    have hb:a * N<=9 * 9:=Int.mul_le_mul ha.2 R7.2 R7.1 ⋯;have hb':0<=a * N:=Int.mul_nonneg ⋯ R7.1;have:jI c (a * N)=true:=by unfold jI;simp only[sK,dE,dL];right;lia
    show (if jI c (a * N)=true then _ else _)=_
    rw[fN this]
   have e3:lB (t.map D.int) none (some ((b.length:Int)+1))=(b++[a]).map .int:=by
    unfold lB;have h1:HT.cG (t.map D.int).length 0 none=0:=rfl;have h2:HT.cG (t.map D.int).length (t.map D.int).length (some ((b.length:Int)+1))=b.length+1:=by
     rw[eA,ht,eC,i5];show (if (b.length:Int)+1<0 then ((b.length:Int)+1+((b.length+(l.length+1):Nat):Int)).toNat else min ((b.length:Int)+1).toNat (b.length+(l.length+1)))=_
     rw[hU ⋯];lia
    rw[h1,h2,List.drop_zero,Nat.sub_zero,ht,nN,nN,List.map_cons];rw[List.take_append,eA,List.take_of_length_le (by rw[eA];lia),show b.length+1 - b.length=1 by lia]
    rfl
   have e4:X5 .count (~~~(b++[a])) (.int a)=some (.int N):=by rw[Jj,hN]
   generalize hba:b++[a]=ba at e3 e4;have q:(rn (n+59)).b [] (k+6) [(.aug 2 .Mult (.bin .Mult ⇑4 (.meth .count (.slice ⇑1 none (some (.bin .Add ⇑3 ↥1))) ⇑4)))] [‹j›,.dat (~~~t),‹c›,.dat (.int (b.length:Int)),‹a›]=some (.nx,[‹j›,.dat (~~~t),.dat (.int (c * (a * N))),.dat (.int (b.length:Int)),‹a›]):=by have e5:bx (~~~ba)=some (ba.map .int):=rfl;simp! [U,zQ,e3,e4,e1,e2,e5]
   rw[List.zipIdx_cons,List.map_cons,fy (rfl:(Tg.tp [3,4]).set _ _=_) q];rw[eC,l5]at w;rw[w];show some (Fl.nx,[_,_,Slot.dat (.int (c * (a * N) * fB (b++[a]) l)),b3,b4])=some (Fl.nx,[_,_,Slot.dat (.int (c * (a * (((b++[a]).count a:Nat):Int) * fB (b++[a]) l))),b3,b4]);rw[hN,Int.mul_assoc,Int.mul_assoc]
 obtain⟨b3,b4,w⟩:=lp t [] 1 .no .no rfl;have e5:=sA t;have dv:=fZ (fL j) (fB [] t) K.dv;generalize hb:(rn (n+59)).b [] (k+6) [(.aug 2 .Mult (.bin .Mult ⇑4 (.meth .count (.slice ⇑1 none (some (.bin .Add ⇑3 ↥1))) ⇑4)))]=bb at w;rw[Int.one_mul,AY]at w;unfold aQ Ji cnt;simp! [U,YM,aE (fx:=dX ik cj) rfl,q0,cD,bx,e5,Tg.ix,Tg.eT,hb,w,hO,aJ (fx:=xg) rfl,q1,dv]
end
theorem qk(v:Int)(h:0<=v/\v<=100):nI .Mult (.lst [.int 0]) (.int v)=some (.new ((List.replicate v.toNat (0:Int)).map .int)):=by
 show (if -(2 ^ 63)<=v/\v<2 ^ 63/\[D.int 0].length * v.toNat<=lim then some (R.new (List.replicate v.toNat [D.int 0]).flatten)else none)=_
 rw[fN ⟨by lia,by lia,au _ (by rw[l5];lia)⟩,List.map_replicate,List.flatten_replicate_singleton]
theorem uF:∀(f:Int->Int->Int) (a b: ~~~0),(a.zip b).map (λp=>D.int (f p.1 p.2))=(List.zipWith f a b).map .int
 |f,[],b=>by rw[List.zip_nil_left,List.zipWith_nil_left];rfl
 |f,a::l,[]=>rfl
 |f,a::l,b::m=>by rw[AF,List.map_cons,List.zipWith_cons_cons,List.map_cons,uF f l m]
theorem xm(a b: ~~~0):vP (a.map .int) (b.map .int)=(a.zip b).map λp=>D.tup [.int p.1,.int p.2]:=by unfold vP;rw[List.zip_map,List.map_map];rfl
section
variable{k n:Nat}{g g1:G}{rn:Nat->Rn}{fns:List Fx}(U:jt fns rn)
include U
variable{mk om ro tw pl po ik mw w wi fa ci cj al ti rf pa:Nat}(hW:fns[w]?=some bM)(hF:fns[fa]?=some ju)(hI:fns[wi]?=some (bH w))(hM:fns[mw]?=some (cg wi ci))(hK:fns[ik]?=some (cY mw w fa))(YM:fns[mk]?=some (dX ik cj))
variable(hRf:fns[rf]?=some gB)(qK:fns[ti]?=some Dh)(hAl:fns[al]?=some (gF rf))(hPa:fns[pa]?=some NR)(YB:fns[ro]?=some (yS pa al ti))(hTw:fns[tw]?=some YJ)
include hW hF hI hM hK YM hRf qK hAl hPa YB hTw
theorem NT(sE:∀j:Nat,1<=j/\j<=9->(∀p∈prs j,∃a b:Int,p=[a,b]/\0<=a/\a<j/\0<=b/\b<j)/\(prs j).Nodup/\(prs j).length<=36){j:Nat}{t: ~~~0}(K:Kd j t):aQ (rn (n+80)) (k+10) (sD mk ro tw) [.int j,~~~t]=some (.dat (~~~(bq t))):=by
 obtain⟨f1,f2,f3⟩:=sE j K.hj;have q0:=λn k=>mY U hW hF hI hM hK (n:=n) (k:=k) (cj:=cj) j K.hj t K.ht (by have:=K.le;lia)
 have qp:=Jg U (n:=n+53) (k:=k+8) j K.hj.2 ⋯;have q1:=Iw U hRf qK hAl hPa (n:=n+15) (k:=k+7) j K.hj (uP t) K.tl (prs j) qp rfl f1 f2 ⋯ K.gp;have qt:=λn k=>YL U (n:=n) (k:=k) t K.pa K.le
 have hl:(eX j (uP t)).length<=36:=by have:=congrArg List.length K.so;rw[(bL _).length_eq,(bL _).length_eq]at this;unfold fP at this;rw[eA]at this;have:=K.cl;lia
 have w:=eW (rn:=rn (n+76)) (bor:=[]) (k:=k+10) (g:=[‹j›,.dat (~~~t)]) (g1:=[‹j›,.dat (~~~t)]) (kk:=2) (nn:=2) (j:=3) (it:=.call ro [(.call tw [⇑1])]) (e:=.blt .len [⇑3]) (eX j (uP t)) (λr=>D.tup (r.map ∅)) (λr=>.int (r.length:Nat)) (by
  have Dw:aQ (rn (n+75)) (k+9) (yS pa al ti) [~~~(uP t)]=some (.new ((eX j (uP t)).map λr=>.tup (r.map ∅))):=q1
  simp! [U,cD,YB,hTw,aJ (fx:=YJ) rfl,qt,aJ (fx:=(yS pa al ti)) rfl,Dw]) rfl ⋯ ⋯ ⋯ (au _ ⋯) λr hr G' hG=>by
  simp! [U,hG.2]
 have e1':(eX j (uP t)).map (λr=>D.int (r.length:Nat))=(fP (eX j (uP t))).map .int:=by unfold fP;rw[List.map_map];rfl
 have Ve:aR ((fP (eX j (uP t))).map .int)=some (fP (eX j (uP t))):=ints_map _;have hl2:(fP (eX j (uP t))).length<64:=by unfold fP;rw[eA];lia
 unfold aQ sD;simp! [U,YM,aE (fx:=dX ik cj) rfl,q0,w,e1',Ve,hl2,vn,bx];unfold bq;rw[K.so,CM]
end
def bS:List Sm:=[(.set 4 (.bin .Mult (.lst [↥0]) ⇑3)),(.setC 2 (.comp 5 3 (.tp [6,7]) (.zip (.bin .Add ⇑2 ⇑4) (.bin .Add ⇑4 ⇑2)) none (.bin .Add ⇑6 ⇑7)))]
theorem ql:∀x:List Int,(∀l∈x,0<=l/\l<=36)->0<=x.sum
 | [],_=>Int.le_refl 0
 |a::x,h=>by
  rw[Bn];have h1:=(h a c8).1;have h2:=ql x λy hy=>h y (bP _ hy)
  lia
section
variable{k n:Nat}{g g1:G}{rn:Nat->Rn}{fns:List Fx}(U:jt fns rn)
include U
theorem tnS(a0 a1:Slot)(c: ~~~0)(m:Nat)(a4:Slot)(hm:m<=36)(hc:c.length+m<=100) :
  (rn (n+20)).b [] k bS [a0,a1,.own (c.map .int),‹m›,a4]=some (.nx,[a0,a1,.own ((List.zipWith (· + ·) (c++List.replicate m 0) (List.replicate m 0++c)).map .int),‹m›,.own ((List.replicate m (0:Int)).map .int)]):=by
 have z:=qk m ⟨by lia,by lia⟩
 rw[o6]at z;generalize hz:List.replicate m (0:Int)=zs at z;have hzl:zs.length=m:=by rw[<- hz,i6]
 have o1:=uw (c.map .int) (zs.map .int) (by rw[eA,eA];lia)
 have o2:=uw (zs.map .int) (c.map .int) (by rw[eA,eA];lia)
 rw[<- nN]at o1 o2;obtain⟨M,hM⟩:∃M:Int,M=m:=⟨_,rfl⟩;rw[<- hM]at z ⊢
 clear hM;have ez:=xm (c++zs) (zs++c);rw[nN,nN]at ez;have s1:aK (rn (n+19)) [] k (.set 4 (.bin .Mult (.lst [↥0]) ⇑3)) [a0,a1,.own (c.map .int),‹M›,a4]=some (.nx,[a0,a1,.own (c.map .int),‹M›,.own (zs.map .int)]):=by simp! [U,z,au 1 ⋯]
 have w:=uo (rn:=rn (n+19)) (bor:=[]) (k:=k) (g:=[a0,a1,.own (c.map .int),‹M›,.own (zs.map .int)]) (g1:=[a0,a1,.own (c.map .int),‹M›,.own (zs.map .int)]) (kk:=3) (nn:=5) (j1:=6) (j2:=7) (it:=.zip (.bin .Add ⇑2 ⇑4) (.bin .Add ⇑4 ⇑2)) (e:=.bin .Add ⇑6 ⇑7) ((c++zs).zip (zs++c)) (λp=>.int p.1) (λp=>.int p.2) (λp=>.int (p.1+p.2))
  (by simp! [U,cD,o1,o2,bx,isTup,ez]) rfl ⋯ ⋯ ⋯ ⋯ ⋯ ⋯ ⋯ (au _ (by rw[List.length_zip,eC,eC];lia)) λp hp G' hG=>by
   have h1:=hG.2.1;have h2:=hG.2.2;simp! [U,h1,h2]
 rw[uF (· + ·)]at w;unfold bS;rw[U.b,aB s1];simp! [U,w]
theorem lpS(a0 a1:Slot):∀(ls: ~~~0) (c: ~~~0) (a3 a4:Slot),(∀l∈ls,0<=l/\l<=36)->c.length+ls.sum<=100->
  ∃b3 b4,dj (.nm 3) ((rn (n+20)).b [] k bS) (ls.map .int) [a0,a1,.own (c.map .int),a3,a4]=some (.nx,[a0,a1,.own ((Jh ls c).map .int),b3,b4])
 | [],c,a3,a4,_,_=>⟨a3,a4,rfl⟩
 |l::ls,c,a3,a4,hl,hs=>by
  obtain⟨m,rfl⟩:∃m:Nat,l=m:=⟨l.toNat,by have:=hl l c8;lia⟩
  have hm:=hl m c8;have hp:=ql ls λy hy=>hl y (bP _ hy)
  rw[Bn]at hs;have q:=tnS U (n:=n) (k:=k) a0 a1 c m a4 ⋯ ⋯;obtain⟨b3,b4,w⟩:=lpS a0 a1 ls (List.zipWith (· + ·) (c++List.replicate m 0) (List.replicate m 0++c)) ‹m› (.own ((List.replicate m (0:Int)).map .int)) (λy hy=>hl y (bP _ hy)) (by rw[List.length_zipWith,eC,eC,i6];lia)
  refine⟨b3,b4,?_⟩;rw[List.map_cons,fy (rfl:(Tg.nm 3).set _ _=_) q];exact w
variable{pl po sm sb tm ak om:Nat}{plX cX aX:Fx}(hP:fns[pl]?=some plX)(hP2:plX.np=2)
include hP hP2
theorem YQ{j:Nat}{t: ~~~0}(K:Kd j t)(q:aQ (rn (n+28)) k plX [.int j,~~~t]=some (.dat (~~~(bq t)))):aQ (rn (n+30)) (k+1) (YK pl) [.int j,~~~t]=some (.new ((bO t).map .int)):=by obtain⟨b3,b4,w⟩:=lpS U (n:=n+9) (k:=k+1) ‹j› (.dat (~~~t)) (bq t) [1] .no .no K.pl K.su;generalize hb:(rn (n+9+20)).b [] (k+1) bS=bb at w;unfold bS at hb;have w':dj (Tg.nm 3) bb ((bq t).map .int) [‹j›,.dat (~~~t),.own [.int 1],.no,.no]=some (.nx,[‹j›,.dat (~~~t),.own ((bO t).map .int),b3,b4]):=w;unfold aQ YK;simp! [U,cD,hP,aE hP2,q,Tg.ix,Tg.eT,hb,w',au 1 ⋯]
theorem YS(hO:fns[po]?=some Jf){j:Nat}{t: ~~~0}(K:Kd j t)(q:aQ (rn (n+26)) k plX [.int j,~~~t]=some (.dat (~~~(bq t)))):aQ (rn (n+30)) (k+1) (Vz po pl) [.int j,~~~t]=some (.dat (.int (2 ^ (bq t).length))):=by
 have hl:=K.cl;rw[<- Dn]at hl;have q2:=λn k=>Ux U (n:=n) (k:=k) 2 (bq t).length ⟨by decide,by decide⟩ ⋯
 unfold aQ Vz;simp! [U,hP,aE hP2,q,hO,aE (fx:=Jf) rfl,q2]
end
theorem uG{j:Nat}(h:1<=j/\j<=9):0<fL j/\fL j<1073741824:=by
 obtain⟨h1,h2⟩:=h;have:([1,2,3,4,5,6,7,8,9].all λj=>decide (0<fL j/\fL j<1073741824))=true:=by decide +kernel
 exact l9 (eM.mp this j (by simp only[d6,kS,yB];lia))
def wmV(v: ~~~0->Int)(j:Nat):Int:=((kinds j).map λt=>cnt j t * v t).sum / fL j
def YT(j:Nat):Int:=wmV (λt=>2 ^ (bq t).length) j
def NX(j:Nat)(c: ~~~0)(t: ~~~0): ~~~0:=List.zipWith (λa b=>a+cnt j t * b) c (bO t)
def uH(j:Nat): ~~~0:=(kinds j).foldl (NX j) (List.replicate (j * (j - 1) / 2+1) 0)
def qM(j:Nat): ~~~0:=(uH j).map λw=>w / fL j
theorem Ah{j:Nat}{c t: ~~~0}(h:c.length<=100):(NX j c t).length<=100:=by unfold NX;rw[List.length_zipWith];lia
theorem xq{j:Nat}:∀(l: ~~~5) {c: ~~~0},c.length<=100->(l.foldl (NX j) c).length<=100
 | [],_,h=>h
 |_::l,_,h=>xq l (Ah h)
section
variable{k n:Nat}{g g1:G}{rn:Nat->Rn}{fns:List Fx}(U:jt fns rn)
variable{pl po sm sb tm ak om:Nat}{tX sX bX aX oX:Fx}(hA:fns[ak]?=some aX)(NZ:aX.np=1)(hT:fns[tm]?=some tX)(hT2:tX.np=2)(hO:fns[om]?=some xg)
include U hA NZ hT hT2 hO
theorem UG(v: ~~~0->Int)(hS:fns[sm]?=some sX)(hS2:sX.np=2){j:Nat}(hj:1<=j/\j<=9)(hK:∀t∈kinds j,Kd j t)(hl:(kinds j).length<=30)(qA:aQ (rn (n+28)) k aX [.int j]=some (.new ((kinds j).map ∅)))(qT:∀t∈kinds j,aQ (rn (n+27)) k tX [.int j,~~~t]=some (.dat (.int (cnt j t))))(qS:∀t∈kinds j,aQ (rn (n+27)) k sX [.int j,~~~t]=some (.dat (.int (v t)))):aQ (rn (n+30)) (k+1) (VB ak tm sm om) [.int j]=some (.dat (.int (wmV v j))):=by
 have w:=eW (rn:=rn (n+29)) (bor:=[]) (k:=k+1) (g:=[‹j›,.no]) (g1:=[‹j›,.no]) (kk:=2) (nn:=2) (j:=3) (it:=.call ak [⇑0]) (e:=.bin .Mult (.call tm [⇑0,⇑3]) (.call sm [⇑0,⇑3])) (kinds j) (λt=>~~~t) (λt=>.int (cnt j t * v t)) (by
  simp! [U,cD,hA,aJ NZ,qA]) rfl ⋯ ⋯ ⋯ (au _ ⋯) λt ht G' hG=>by
  have h0:G'[0]?=some ‹j›:=hG.1 0 ⋯;have q1:=qT t ht;have q2:=qS t ht;have K:=hK t ht;have e:=cR (cnt j t) (v t) (.inl ⟨by have:=K.cn;lia,by have:=K.cn;lia⟩)
  simp! [U,h0,hG.2,hT,aE hT2,q1,hS,aE hS2,q2,e]
 have e1:(kinds j).map (λt=>D.int (cnt j t * v t))=((kinds j).map λt=>cnt j t * v t).map .int:=by rw[List.map_map];rfl
 have dv:=fZ ((kinds j).map λt=>cnt j t * v t).sum (fL j) (uG hj)
 have q3:=λn k=>y9 U (n:=n) (k:=k) j hj.2
 unfold wmV;generalize ((kinds j).map λt=>cnt j t * v t)=qqz at e1 dv
 have bs:=kI qqz;unfold aQ VB;simp! [U,w,e1,bs,hO,aJ (fx:=xg) rfl,q3,dv]
theorem Pw(hS:fns[sm]?=some sX)(hS2:sX.np=2){j:Nat}(hj:1<=j/\j<=9)(hK:∀t∈kinds j,Kd j t)(hl:(kinds j).length<=30)(qA:aQ (rn (n+28)) k aX [.int j]=some (.new ((kinds j).map ∅)))(qT:∀t∈kinds j,aQ (rn (n+27)) k tX [.int j,~~~t]=some (.dat (.int (cnt j t))))(qS:∀t∈kinds j,aQ (rn (n+27)) k sX [.int j,~~~t]=some (.dat (.int (2 ^ (bq t).length)))):aQ (rn (n+30)) (k+1) (VB ak tm sm om) [.int j]=some (.dat (.int (YT j))):=UG U hA NZ hT hT2 hO _ hS hS2 hj hK hl qA qT qS
def bW(tm sb:Nat):List Sm:=[(.set 4 (.call tm [⇑0,⇑3])),(.setC 2 (.comp 5 3 (.tp [6,7]) (.zip ⇑2 (.call sb [⇑0,⇑3])) none (.bin .Add ⇑6 (.bin .Mult ⇑4 ⇑7))))]
omit hA NZ hO in
theorem tnW(hB:fns[sb]?=some bX)(hB2:bX.np=2){j:Nat}{t: ~~~0}(K:Kd j t)(qT:aQ (rn (n+18)) k tX [.int j,~~~t]=some (.dat (.int (cnt j t))))(qB:aQ (rn (n+18)) k bX [.int j,~~~t]=some (.new ((bO t).map .int)))(a1:Slot)(c: ~~~0)(hc:c.length<=100)(a4:Slot) :
  (rn (n+20)).b [] (k+1) (bW tm sb) [‹j›,a1,.own (c.map .int),.dat (~~~t),a4]=some (.nx,[‹j›,a1,.own ((NX j c t).map .int),.dat (~~~t),.dat (.int (cnt j t))]):=by
 have w:=uo (rn:=rn (n+19)) (bor:=[]) (k:=k+1) (g:=[‹j›,a1,.own (c.map .int),.dat (~~~t),.dat (.int (cnt j t))]) (g1:=[‹j›,a1,.dat (.lst (c.map .int)),.dat (~~~t),.dat (.int (cnt j t))]) (kk:=3) (nn:=5) (j1:=6) (j2:=7) (it:=.zip ⇑2 (.call sb [⇑0,⇑3])) (e:=.bin .Add ⇑6 (.bin .Mult ⇑4 ⇑7)) (c.zip (bO t)) (λp=>.int p.1) (λp=>.int p.2) (λp=>.int (p.1+cnt j t * p.2))
  (by
   have ez:=xm c (bO t);simp! [U,cD,hB,aE hB2,qB,bx,isTup,ez]) rfl ⋯ ⋯ ⋯ ⋯ ⋯ ⋯ ⋯ (au _ (by rw[List.length_zip];lia)) λp hp G' hG=>by
   have h1:=hG.2.1;have h2:=hG.2.2;have h4:G'[4]?=some (.dat (.int (cnt j t))):=hG.1 4 ⋯;have e:=cR (cnt j t) p.2 (.inl ⟨by have:=K.cn;lia,by have:=K.cn;lia⟩)
   simp! [U,h1,h2,h4,e]
 have e3:(c.zip (bO t)).map (λp=>D.int (p.1+cnt j t * p.2))=(NX j c t).map .int:=uF (λa b=>a+cnt j t * b) c (bO t)
 rw[e3]at w;unfold bW;simp! [U,hT,aE hT2,qT,w]
omit hA NZ hO in
theorem lpW(hB:fns[sb]?=some bX)(hB2:bX.np=2){j:Nat}(a1:Slot):∀(l: ~~~5) (c: ~~~0) (a3 a4:Slot),(∀t∈l,Kd j t/\aQ (rn (n+18)) k tX [.int j,~~~t]=some (.dat (.int (cnt j t)))/\aQ (rn (n+18)) k bX [.int j,~~~t]=some (.new ((bO t).map .int)))->c.length<=100->
  ∃b3 b4,dj (.nm 3) ((rn (n+20)).b [] (k+1) (bW tm sb)) (l.map ∅) [‹j›,a1,.own (c.map .int),a3,a4]=some (.nx,[‹j›,a1,.own ((l.foldl (NX j) c).map .int),b3,b4])
 | [],c,a3,a4,_,_=>⟨a3,a4,rfl⟩
 |t::l,c,a3,a4,h,hc=>by
  obtain⟨K,qT,qB⟩:=h t c8;obtain⟨b3,b4,w⟩:=lpW hB hB2 a1 l (NX j c t) (.dat (~~~t)) (.dat (.int (cnt j t))) (λx hx=>h x (bP _ hx)) (Ah hc)
  refine⟨b3,b4,?_⟩;rw[List.map_cons,fy (rfl:(Tg.nm 3).set _ _=_) (tnW U hT hT2 hB hB2 K qT qB a1 c hc a4)];exact w
omit hA NZ hT hT2 hO in
theorem sW(J M:Int)(a1:Slot)(zs:List D)(mu:nI .Mult (.int J) (.int (J - 1))=some (.dat (.int (J * (J - 1)))))(dv:nI .FloorDiv (.int (J * (J - 1))) (.int 2)=some ‹M›)(zz:nI .Mult (.lst [.int 0]) (.int (M+1))=some (.new zs)):aK (rn (n+29)) [] (k+1) (.set 2 (.bin .Mult (.lst [↥0]) (.bin .Add (.bin .FloorDiv (.bin .Mult ⇑0 (.bin .Sub ⇑0 ↥1)) ↥2) ↥1))) [‹J›,a1,.no,.no,.no]=some (.nx,[‹J›,a1,.own zs,.no,.no]):=by simp! [U,mu,dv,zz,au 1 ⋯]
theorem YW(hB:fns[sb]?=some bX)(hB2:bX.np=2){j:Nat}(hj:1<=j/\j<=9)(hl:(kinds j).length<=30)(qA:aQ (rn (n+28)) k aX [.int j]=some (.new ((kinds j).map ∅)))(hK:∀t∈kinds j,Kd j t/\aQ (rn (n+27)) k tX [.int j,~~~t]=some (.dat (.int (cnt j t)))/\aQ (rn (n+27)) k bX [.int j,~~~t]=some (.new ((bO t).map .int))):aQ (rn (n+30)) (k+1) (wbX ak tm sb om) [.int j]=some (.new ((qM j).map .int)):=by
 obtain⟨N,hN⟩:∃N:Nat,N=j * (j - 1) / 2:=⟨_,rfl⟩;have h36:N<=36:=by
  have:=Cf hj.2 (show j - 1<=8 by lia)
  lia
 have mu:=cR (j:Int) ((j:Int) - 1) (.inl ⟨by lia,by lia⟩)
 have dv:=fZ ((j:Int) * ((j:Int) - 1)) 2 ⋯;have eN:(j:Int) * ((j:Int) - 1) / 2=N:=by
  rw[hN,show (j:Int) - 1=((j - 1:Nat):Int)by lia]
  rfl
 rw[eN]at dv;have zz:=qk ((N:Int)+1) ⟨by lia,by lia⟩
 rw[show ((N:Int)+1).toNat=N+1 by lia]at zz
 have YX:uH j=(kinds j).foldl (NX j) (List.replicate (N+1) 0):=by unfold uH;rw[hN]
 obtain⟨zs,hzs⟩:∃zs:List Int,zs=List.replicate (N+1) (0:Int):=⟨_,rfl⟩;have hz:zs.length<=100:=by rw[hzs,i6];lia
 rw[<- hzs]at zz YX;obtain⟨b3,b4,lp⟩:=lpW U hT hT2 hB hB2 (n:=n+9) (k:=k) (.dat (.lst ((kinds j).map ∅))) (kinds j) zs .no .no hK hz
 rw[<- YX]at lp;have hal:(uH j).length<=100:=by rw[YX];exact xq _ hz
 have q3:=λn k=>y9 U (n:=n) (k:=k) j hj.2
 have w:=eW (rn:=rn (n+28)) (bor:=[]) (k:=k+1) (g:=[‹j›,.dat (.lst ((kinds j).map ∅)),.own ((uH j).map .int),b3,b4]) (g1:=[‹j›,.dat (.lst ((kinds j).map ∅)),.dat (.lst ((uH j).map .int)),b3,b4]) (kk:=2) (nn:=5) (j:=6) (it:=.slot 2) (e:=.bin .FloorDiv ⇑6 (.call om [⇑0])) (uH j) .int (λw=>.int (w / fL j)) (by simp! [U,cD]) rfl ⋯ ⋯ ⋯ (au _ ⋯) λx hx G' hG=>by
  have h0:G'[0]?=some ‹j›:=hG.1 0 ⋯;have dv:=fZ x (fL j) (uG hj);simp! [U,h0,hG.2,hO,aJ (fx:=xg) rfl,q3,dv]
 have e1:(uH j).map (λw=>D.int (w / fL j))=(qM j).map .int:=by unfold qM;rw[List.map_map];rfl
 rw[e1]at w;obtain⟨M,hM⟩:∃M:Int,M=N:=⟨_,rfl⟩;rw[<- hM]at dv zz;clear hM;have s2:=sW U (n:=n) (k:=k) (j:Int) M (.own ((kinds j).map ∅)) (zs.map .int) mu dv zz
 have s1:aK (rn (n+29)) [] (k+1) (.set 1 (.call ak [⇑0])) [‹j›,.no,.no,.no,.no]=some (.nx,[‹j›,.own ((kinds j).map ∅),.no,.no,.no]):=by simp! [U,hA,aJ NZ,qA]
 generalize hb:(rn (n+9+20)).b [] (k+1) (bW tm sb)=bb at lp;unfold bW at hb;have s3:aK (rn (n+29)) [] (k+1) (.loop (.nm 3) ⇑1 (bW tm sb)) [‹j›,.own ((kinds j).map ∅),.own (zs.map .int),.no,.no]=some (.nx,[‹j›,.dat (.lst ((kinds j).map ∅)),.own ((uH j).map .int),b3,b4]):=by unfold bW;simp! [U,cD,Tg.ix,Tg.eT,hb,lp]
 unfold aQ wbX;show (match (rn (n+30)).b [] (k+1) _ [‹j›,.no,.no,.no,.no]with |some (.rt r,gc)=>gZ [] gc r |some (.nx,_)=>some (.dat .non) |_=>none)=_
 unfold bW at s3;rw[U.b,aB s1,aB s2,aB s3];simp! [U,w]
end
end Ev
namespace bJ
open Ev
noncomputable def x0:Fx:=⟨1,1,[(.ret (.and [(.pB ⇑0 "int"),(.not (.pB ⇑0 "bool"))]))]⟩
noncomputable def x1:Fx:=⟨3,3,[(.ret (.and [(.call 0 [⇑0]),(.chain ⇑1 [.LtE,.LtE] [⇑0,⇑2])]))]⟩
noncomputable def x2:Fx:=⟨3,3,[(.ite (.not (.call 1 [⇑0,⇑1,⇑2])) [.stuck] [])]⟩
def x3:Fx:=⟨2,4,[(.set 2 ↥1),(.loop (.nm 3) (.dD ⇑1) [(.aug 2 .Mult ⇑0)]),(.ret ⇑2)]⟩
def x4:Fx:=⟨2,2,[(.expr (.call 2 [⇑0,↥1,↥9])),(.ite (.not (.pB ⇑1 "tuple")) (~~~4) []),(.ite (.not (.blt .all [(.comp 2 2 (.nm 3) ⇑1 none (.and [(.call 0 [⇑3]),(.cmp .GtE ⇑3 ↥1)]))])) (~~~4) []),(.ret (.and [(.cmp .Eq (.blt .sum [⇑1]) ⇑0),(.call 5 [⇑1])]))]⟩
def x5:Fx:=⟨1,1,[(.ret (.blt .all [(.comp 1 2 (.nm 2) (.cL ↥1 (.blt .len [⇑0])) none (.cmp .GtE (.ix ⇑0 (.bin .Sub ⇑2 ↥1)) (.ix ⇑0 ⇑2)))]))]⟩
noncomputable def x6:Fx:=⟨2,2,[(.ite (.not (.call 4 [⇑0,⇑1])) [.stuck] [])]⟩
noncomputable def x7:Fx:=⟨1,1,[(.expr (.call 2 [⇑0,↥1,↥9])),(.ret (.call 8 [⇑0,⇑0]))]⟩
def x8:Fx:=⟨2,5,[(.ite (.cmp .Eq ⇑0 ↥0) [(.ret (.lst [(.tup [])]))] []),(.set 2 (.lst [])),(.loop (.nm 3) (.cL ↥1 (.bin .Add (.blt .min [⇑0,⇑1]) ↥1)) [(.loop (.nm 4) (.call 8 [(.bin .Sub ⇑0 ⇑3),⇑3]) [(.expr (.append 2 (.bin .Add (.tup [⇑3]) ⇑4)))])]),(.ret ⇑2)]⟩
def x9:Fx:=⟨2,5,[(.expr (.call 6 [⇑0,⇑1])),(.set 2 ↥1),(.loop (.tp [3,4]) (.enum ⇑1) [(.aug 2 .Mult (.bin .Mult ⇑4 (.meth .count (.slice ⇑1 none (some (.bin .Add ⇑3 ↥1))) ⇑4)))]),(.ret (.bin .FloorDiv (.call 10 [⇑0]) ⇑2))]⟩
def x10:Fx:=⟨1,3,[(.set 1 ↥1),(.loop (.nm 2) (.cL ↥1 (.bin .Add ⇑0 ↥1)) [(.aug 1 .Mult ⇑2)]),(.ret ⇑1)]⟩
def x11:Fx:=⟨1,3,[(.ite (.or [(.not (.pB ⇑0 "tuple")),(.cmp .NotEq (.blt .len [⇑0]) ↥2)]) (~~~4) []),(.tgt (.tp [1,2]) ⇑0),(.ite (.or [(.not (.call 1 [⇑1,↥1,↥6])),(.not (.pB ⇑2 "tuple"))]) (~~~4) []),(.ret (.and [(.blt .all [(.comp 3 2 (.nm 4) ⇑2 none (.call 12 [⇑1,⇑4]))]),(.call 13 [⇑2])]))]⟩
def x12:Fx:=⟨2,2,[(.ite (.or [(.not (.pB ⇑1 "tuple")),(.cmp .NotEq (.blt .len [⇑1]) ↥2)]) (~~~4) []),(.ret (.and [(.blt .all [(.comp 2 2 (.nm 3) ⇑1 none (.call 1 [⇑3,↥0,(.bin .Sub ⇑0 ↥1)]))]),(.cmp .Lt (.ix ⇑1 ↥0) (.ix ⇑1 ↥1))]))]⟩
def x13:Fx:=⟨1,1,[(.ret (.blt .all [(.comp 1 2 (.nm 2) (.cL ↥1 (.blt .len [⇑0])) none (.cmp .Lt (.ix ⇑0 (.bin .Sub ⇑2 ↥1)) (.ix ⇑0 ⇑2)))]))]⟩
def x14:Fx:=⟨1,1,[(.ite (.not (.call 11 [⇑0])) [.stuck] [])]⟩
def x15:Fx:=⟨2,2,[(.expr (.call 2 [⇑0,↥1,↥6])),(.ite (.or [(.not (.pB ⇑1 "tuple")),(.not (.blt .all [(.comp 2 2 (.nm 3) ⇑1 none (.call 0 [⇑3]))]))]) (~~~4) []),(.ret (.cmp .Eq (.blt .sorted [⇑1]) (.cT ⇑0)))]⟩
noncomputable def x16:Fx:=⟨2,2,[(.ite (.not (.call 15 [⇑0,⇑1])) [.stuck] [])]⟩
def x17:Fx:=⟨2,2,[(.expr (.call 14 [⇑0])),(.expr (.call 16 [(.ix ⇑0 ↥0),⇑1])),(.ret (.call 18 [⇑0,⇑1]))]⟩
def x18:Fx:=⟨2,4,[(.tgt (.tp [2,3]) ⇑0),(.ret (.tup [⇑2,(.blt .tuple [(.blt .sorted [(.comp 4 3 (.tp [5,6]) ⇑3 none (.call 19 [(.ix ⇑1 ⇑5),(.ix ⇑1 ⇑6)]))])])]))]⟩
noncomputable def x19:Fx:=⟨2,2,[(.ret (.ite (.cmp .Lt ⇑0 ⇑1) (.tup [⇑0,⇑1]) (.tup [⇑1,⇑0])))]⟩
def x20:Fx:=⟨1,1,[(.ret (.cK 1 3 (.nm 2) (.dD ⇑0) none (.nm 3) (.cL (.bin .Add ⇑2 ↥1) ⇑0) none (.tup [⇑2,⇑3])))]⟩
def x21:Fx:=⟨2,5,[(.rows 0 1 2 3 4)]⟩
noncomputable def x22:Fx:=⟨2,2,[(.expr (.call 16 [⇑0,⇑1])),(.ret (.call 23 [⇑1,(.cT ⇑0)]))]⟩
noncomputable def x23:Fx:=⟨2,3,[(.setC 2 (.comp 3 2 (.nm 4) ⇑1 none (.call 24 [⇑0,⇑4]))),(.ret (.comp 3 2 (.nm 4) ⇑2 (some (.cmp .Eq (.ix ⇑4 ↥0) (.blt .min [⇑4]))) ⇑4))]⟩
noncomputable def x24:Fx:=⟨2,3,[(.set 2 (.lst [⇑1])),(.while (.cmp .NotEq (.ix ⇑0 (.ix ⇑2 (.neg ↥1))) ⇑1) [(.expr (.append 2 (.ix ⇑0 (.ix ⇑2 (.neg ↥1)))))]),(.ret (.blt .tuple [⇑2]))]⟩
def x25:Fx:=⟨2,2,[(.ret (.blt .tuple [(.gR (.comp 2 2 (.nm 3) (.call 22 [⇑0,⇑1]) none (.blt .len [⇑3])))]))]⟩
noncomputable def VD:Fx:=⟨2,2,[(.expr (.call 16 [⇑0,⇑1])),(.ret (.call 27 [⇑1]))]⟩
def x27:Fx:=⟨1,2,[(.set 1 (.call 20 [(.blt .len [⇑0])])),(.ret (.call 23 [(.iK 2 3 (.tp [3,4]) ⇑1 [⇑3,⇑4] (.call 19 [(.ix ⇑0 ⇑3),(.ix ⇑0 ⇑4)])),⇑1]))]⟩
noncomputable def YZ:Fx:=⟨2,2,[(.ret (.cmp .Eq (.call 17 [⇑0,⇑1]) ⇑0))]⟩
def x29:Fx:=⟨2,2,[(.expr (.call 6 [⇑0,⇑1])),(.ret (.blt .tuple [(.gR (.comp 2 2 (.nm 3) (.call 27 [(.call 30 [⇑1])]) none (.blt .len [⇑3])))]))]⟩
def x30:Fx:=⟨1,4,[(.set 1 (.lst [])),(.loop (.nm 2) ⇑0 [(.set 3 (.blt .len [⇑1])),(.aug 1 .Add (.fY (.bin .Add ⇑3 ↥1) (.bin .Add ⇑3 ⇑2))),(.expr (.append 1 ⇑3))]),(.ret (.blt .tuple [⇑1]))]⟩
noncomputable def x31:Fx:=⟨2,2,[(.ret (.call 3 [↥2,(.blt .len [(.call 29 [⇑0,⇑1])])]))]⟩
def x32:Fx:=⟨2,5,[(.set 2 (.lst [↥1])),(.loop (.nm 3) (.call 29 [⇑0,⇑1]) [(.set 4 (.bin .Mult (.lst [↥0]) ⇑3)),(.setC 2 (.comp 5 3 (.tp [6,7]) (.zip (.bin .Add ⇑2 ⇑4) (.bin .Add ⇑4 ⇑2)) none (.bin .Add ⇑6 ⇑7)))]),(.ret ⇑2)]⟩
def x33:Fx:=⟨1,2,[(.setC 1 (.comp 2 2 (.nm 3) (.call 7 [⇑0]) none (.bin .Mult (.call 9 [⇑0,⇑3]) (.call 31 [⇑0,⇑3])))),(.ret (.bin .FloorDiv (.blt .sum [⇑1]) (.call 10 [⇑0])))]⟩
def x34:Fx:=⟨1,5,[(.set 1 (.call 7 [⇑0])),(.set 2 (.bin .Mult (.lst [↥0]) (.bin .Add (.bin .FloorDiv (.bin .Mult ⇑0 (.bin .Sub ⇑0 ↥1)) ↥2) ↥1))),(.loop (.nm 3) ⇑1 [(.set 4 (.call 9 [⇑0,⇑3])),(.setC 2 (.comp 5 3 (.tp [6,7]) (.zip ⇑2 (.call 32 [⇑0,⇑3])) none (.bin .Add ⇑6 (.bin .Mult ⇑4 ⇑7))))]),(.ret (.comp 5 2 (.nm 6) ⇑2 none (.bin .FloorDiv ⇑6 (.call 10 [⇑0]))))]⟩
noncomputable def x35:Fx:=⟨1,1,[(.expr (.call 14 [⇑0])),(.ret (.call 36 [⇑0,⇑0]))]⟩
def x36:Fx:=⟨2,7,[(.set 2 (.ix ⇑0 ↥0)),(.set 3 (.call 21 [⇑2,(.ix ⇑0 ↥1)])),(.set 4 (.call 21 [⇑2,(.ix ⇑1 ↥1)])),(.set 5 (.lst [(.tup [])])),(.loop (.nm 6) (.dD ⇑2) [(.setC 5 (.cK 7 3 (.nm 8) ⇑5 none (.nm 9) (.dD ⇑2) (some (.and [(.cmp .NotIn ⇑9 ⇑8),(.call 37 [⇑8,(.ix ⇑3 ⇑6),(.ix ⇑4 ⇑9)])])) (.bin .Add ⇑8 (.tup [⇑9]))))]),(.ret ⇑5)]⟩
noncomputable def x37:Fx:=⟨3,3,[(.ite (.cmp .NotEq (.blt .len [⇑1]) (.blt .len [⇑2])) (~~~4) []),(.ret (.blt .all [(.comp 3 3 (.tp [4,5]) (.enum ⇑0) none (.cmp .Eq (.cmp .In ⇑4 ⇑1) (.cmp .In ⇑5 ⇑2)))]))]⟩
def x38:Fx:=⟨2,2,[(.ite (.cmp .Lt ⇑1 (.blt .len [⇑0])) [(.ret (.ix ⇑0 ⇑1))] []),(.ret ↥0)]⟩
def x39:Fx:=⟨2,3,[(.set 2 (.call 38 [⇑0,⇑1])),(.ite (.cmp .GtE ⇑2 (.bin .Pow ↥10 ↥18)) [(.ret (.lst [(.bin .Sub ⇑2 (.bin .Pow ↥10 ↥18)),(.val (.bl true))]))] []),(.ret (.lst [(.bin .Mod ⇑2 ↥2147483647),(.val (.bl false))]))]⟩
def x40:Fx:=⟨2,4,[(.ite (.ix ⇑0 ↥1) [(.set 2 (.bin .Mod (.ix ⇑0 ↥0) ⇑1)),(.item 0 ↥0 (.bin .FloorDiv (.ix ⇑0 ↥0) ⇑1)),(.ret ⇑2)] []),(.item 0 ↥0 (.bin .Mod (.bin .Add (.bin .Mult (.ix ⇑0 ↥0) ↥48271) ↥29) ↥2147483647)),(.set 3 (.bin .Mod (.bin .Add (.bin .Add (.bin .Mult (.ix ⇑0 ↥0) (.ix ⇑0 ↥0)) (.bin .Mult ↥39373 (.ix ⇑0 ↥0))) ↥7) ↥2147483629)),(.set 3 (.bin .Mod (.bin .Add (.bin .Mult ⇑3 ⇑3) (.bin .Mult ↥16807 ⇑3)) ↥2147483587)),(.ret (.bin .Mod (.bin .FloorDiv ⇑3 ↥8) ⇑1))]⟩
def x41:Fx:=⟨1,3,[(.set 1 (.lst [])),(.loop (.nm 2) (.dD ⇑0) [(.expr (.extend 1 (.comp 3 2 (.nm 4) (.cL (.bin .Add ⇑2 ↥1) ⇑0) none (.tup [⇑2,⇑4]))))]),(.ret ⇑1)]⟩
def x42:Fx:=⟨2,4,[(.set 2 (.blt .list [⇑1])),(.set 3 (.lst [])),(.while (.cmp .NotEq ⇑2 (.lst [])) [(.expr (.append 3 (.ig 2 (.call 40 [⇑0,(.blt .len [⇑2])]))))]),(.ret ⇑3)]⟩
def x43:Fx:=⟨2,8,[(.set 2 (.blt .max [↥1,(.bin .Sub ⇑1 (.ix (.lst [↥0,↥4,↥1,↥0,↥2,↥1,↥3,⇑1]) (.call 40 [⇑0,↥8])))])),(.set 3 (.call 40 [⇑0,↥7])),(.set 4 (.comp 8 2 (.nm 9) (.call 41 [⇑2]) (some (.cmp .Lt (.call 40 [⇑0,↥8]) (.ix (.lst [↥2,↥4,↥6]) (.bin .Mod ⇑3 ↥3)))) ⇑9)),(.set 5 (.call 42 [⇑0,(.cT ⇑2)])),(.ite (.cmp .Gt ⇑3 ↥2) [(.set 4 (.lst [])),(.loop (.nm 6) (.cL ↥1 ⇑2) [(.expr (.append 4 (.blt .tuple [(.blt .sorted [(.lst [(.ix ⇑5 ⇑6),(.ix ⇑5 (.ix (.lst [(.bin .Sub ⇑6 ↥1),(.bin .Sub ⇑6 ↥1),↥0,(.bin .FloorDiv ⇑6 ↥2)]) (.bin .Sub ⇑3 ↥3)))])])])))]),(.ite (.and [(.cmp .Eq ⇑3 ↥4),(.cmp .Gt ⇑2 ↥2)]) [(.expr (.append 4 (.blt .tuple [(.blt .sorted [(.lst [(.ix ⇑5 ↥0),(.ix ⇑5 (.bin .Sub ⇑2 ↥1))])])])))] []),(.set 7 (.comp 8 2 (.nm 9) (.call 41 [⇑2]) (some (.cmp .Eq (.call 40 [⇑0,↥12]) ↥0)) ⇑9)),(.set 4 (.comp 8 2 (.nm 9) (.call 41 [⇑2]) (some (.cmp .NotEq (.cmp .In ⇑9 ⇑4) (.cmp .In ⇑9 ⇑7))) ⇑9))] []),(.ret (.tup [⇑2,(.blt .tuple [(.blt .sorted [⇑4])])]))]⟩
def x44:Fx:=⟨2,5,[(.set 2 (.call 42 [⇑0,(.cT ⇑1)])),(.ite (.cmp .Gt (.call 40 [⇑0,↥3]) ↥0) [(.ret (.blt .tuple [⇑2]))] []),(.set 3 (.cT ⇑1)),(.loop (.nm 4) (.nG ↥0 (.bin .Sub ⇑1 ↥1) ↥2) [(.ite (.cmp .Eq (.call 40 [⇑0,↥2]) ↥1) [(.items2 3 (.ix ⇑2 ⇑4) 3 (.ix ⇑2 (.bin .Add ⇑4 ↥1)) (.tup [(.ix ⇑2 (.bin .Add ⇑4 ↥1)),(.ix ⇑2 ⇑4)]))] [])]),(.ret (.blt .tuple [⇑3]))]⟩
def Y0:Fx:=⟨1,10,[(.tgt (.tp [1,2,3]) (.tup [↥1,↥0,(.call 7 [⇑0])])),(.loop (.nm 4) (.cL ↥2 (.bin .Add ⇑0 ↥1)) [(.set 1 (.bin .Mult ⇑1 ⇑4))]),(.set 5 (.bin .Mult (.lst [↥0]) (.bin .Add (.bin .FloorDiv (.bin .Mult ⇑0 (.bin .Sub ⇑0 ↥1)) ↥2) ↥1))),(.loop (.nm 6) ⇑3 [(.set 7 (.call 32 [⇑0,⇑6])),(.set 8 (.call 9 [⇑0,⇑6])),(.set 2 (.bin .Add ⇑2 (.bin .Mult ⇑8 (.call 31 [⇑0,⇑6])))),(.set 5 (.comp 10 2 (.nm 11) (.dD (.blt .len [⇑5])) none (.bin .Add (.ix ⇑5 ⇑11) (.bin .Mult ⇑8 (.ix ⇑7 ⇑11))))),(.ite (.or [(.cmp .NotEq (.blt .sum [⇑7]) (.call 31 [⇑0,⇑6])),(.cmp .NotEq (.blt .sum [(.call 29 [⇑0,⇑6])]) (.bin .Sub (.blt .len [⇑5]) ↥1))]) (~~~4) [])]),(.set 9 (.call 34 [⇑0])),(.ite (.or [(.cmp .NotEq ⇑2 (.bin .Mult ⇑1 (.call 33 [⇑0]))),(.cmp .NotEq ⇑5 (.comp 10 2 (.nm 11) ⇑9 none (.bin .Mult ⇑1 ⇑11)))]) (~~~4) []),(.ret (.and [(.cmp .Eq ⇑9 (.rev ⇑9)),(.cmp .Eq (.blt .sum [⇑9]) (.call 33 [⇑0])),(.cmp .Eq (.ix ⇑9 ↥0) ↥1)]))]⟩
def Y3:Fx:=⟨2,5,[(.set 2 (.call 26 [(.ix ⇑0 ↥0),⇑1])),(.set 3 (.blt .tuple [(.rev (.blt .sorted [(.comp 5 2 (.nm 6) ⇑2 none (.blt .len [⇑6]))]))])),(.ite (.cmp .NotEq (.call 29 [(.ix ⇑0 ↥0),(.call 25 [(.ix ⇑0 ↥0),⇑1])]) ⇑3) (~~~4) []),(.set 4 (.cmp .Eq (.comp 5 2 (.nm 6) ⇑2 (some (.chain ↥0 [.Lt,.Lt] [(.blt .len [(.comp 8 2 (.nm 9) ⇑6 (some (.cmp .In ⇑9 (.ix ⇑0 ↥1))) ⇑9)]),(.blt .len [⇑6])])) ⇑6) (.lst []))),(.ret (.and [(.cmp .Eq (.call 28 [⇑0,⇑1]) ⇑4),(.cmp .Eq ⇑4 (.cmp .In ⇑1 (.call 35 [⇑0])))]))]⟩
def Px:Fx:=⟨1,7,[(.ite (.cmp .NotEq (.comp 7 2 (.nm 8) (.cL ↥1 ↥10) (some (.not (.call 45 [⇑8]))) ⇑8) (.lst [])) (~~~4) []),(.loop (.nm 1) (.dD (.blt .max [↥1,(.blt .min [(.blt .len [⇑0]),↥4])])) [(.set 2 (.call 39 [⇑0,⇑1])),(.set 3 (.call 43 [⇑2,↥6])),(.set 4 (.call 44 [⇑2,(.ix ⇑3 ↥0)])),(.set 5 (.lst [])),(.loop (.nm 6) (.call 26 [(.ix ⇑3 ↥0),⇑4]) [(.set 5 (.bin .Add ⇑5 (.bin .Mult (.blt .list [⇑6]) (.call 40 [⇑2,↥2]))))]),(.ite (.or [(.not (.call 46 [⇑3,⇑4])),(.not (.call 46 [(.tup [(.ix ⇑3 ↥0),(.blt .tuple [(.blt .sorted [⇑5])])]),⇑4]))]) (~~~4) [])]),(.ret (.val (.bl true)))]⟩
def fns:List Fx:=[x0,x1,x2,x3,x4,x5,x6,x7,x8,x9,x10,x11,x12,x13,x14,x15,x16,x17,x18,x19,x20,x21,x22,x23,x24,x25,VD,x27,YZ,x29,x30,x31,x32,x33,x34,x35,x36,x37,x38,x39,x40,x41,x42,x43,x44,Y0,Y3,Px]
theorem c0:fns[0]?=some bM:=rfl
theorem c1:fns[1]?=some (bH 0):=rfl
theorem c2:fns[2]?=some (cg 1 1):=rfl
theorem c3:fns[3]?=some Jf:=rfl
theorem c4:fns[4]?=some (cY 2 0 5):=rfl
theorem c5:fns[5]?=some ju:=rfl
theorem c6:fns[6]?=some (dX 4 3):=rfl
theorem c7:fns[7]?=some x7:=rfl
theorem c9:fns[9]?=some (Ji 6 10):=rfl
theorem c10:fns[10]?=some xg:=rfl
theorem c11:fns[11]?=some (jQ 1 12 13):=rfl
theorem c12:fns[12]?=some (jP 1):=rfl
theorem c13:fns[13]?=some yR:=rfl
theorem c14:fns[14]?=some (fM 11 0):=rfl
theorem c15:fns[15]?=some (cC 2 0):=rfl
theorem c16:fns[16]?=some (bB 15 2):=rfl
theorem c17:fns[17]?=some (kM 14 16 18):=rfl
theorem c18:fns[18]?=some (Iu 19):=rfl
theorem c19:fns[19]?=some Dh:=rfl
theorem c20:fns[20]?=some NR:=rfl
theorem c21:fns[21]?=some sf:=rfl
theorem c22:fns[22]?=some (kK 16 23):=rfl
theorem c23:fns[23]?=some (gF 24):=rfl
theorem c24:fns[24]?=some gB:=rfl
theorem c25:fns[25]?=some (wN 22):=rfl
theorem c26:fns[26]?=some VD:=rfl
theorem c27:fns[27]?=some (yS 20 23 19):=rfl
theorem c28:fns[28]?=some YZ:=rfl
theorem c29:fns[29]?=some (sD 6 27 30):=rfl
theorem c30:fns[30]?=some YJ:=rfl
theorem c31:fns[31]?=some (Vz 3 29):=rfl
theorem c32:fns[32]?=some (YK 29):=rfl
theorem c33:fns[33]?=some (VB 7 9 31 10):=rfl
theorem c34:fns[34]?=some (wbX 7 9 32 10):=rfl
theorem c35:fns[35]?=some (Ja 14 36):=rfl
theorem c36:fns[36]?=some (iU 21 37):=rfl
theorem c37:fns[37]?=some sr:=rfl
theorem c38:fns[38]?=some pX:=rfl
theorem c39:fns[39]?=some (pY 38):=rfl
theorem c40:fns[40]?=some cU:=rfl
theorem c41:fns[41]?=some gG:=rfl
theorem c42:fns[42]?=some (nJ 40):=rfl
theorem c43:fns[43]?=some (Dl 40 41 42):=rfl
theorem c44:fns[44]?=some (mW 40 42):=rfl
theorem c45:fns[45]?=some Y0:=rfl
theorem c46:fns[46]?=some Y3:=rfl
end bJ
namespace bJ
open Ev
def Jk(j:Nat)(c t: ~~~0): ~~~0:=(List.range c.length).map λ(i:Nat)=>gt c i+cnt j t * gt (bO t) i
def JG(j:Nat)(c:Int)(t: ~~~0):Int:=c+cnt j t * 2 ^ (bq t).length
def nn(j:Nat):Nat:=j * (j - 1) / 2
theorem Jl{j:Nat}(h:1<=j/\j<=9):nn j<=36:=by
 unfold nn;have:=Cf h.2 (show j - 1<=8 by lia)
 lia
def xr(j:Nat):Int:=(kinds j).foldl (JG j) 0
def lZ(j:Nat): ~~~0:=(kinds j).foldl (Jk j) (List.replicate (nn j+1) 0)
def kdC(j:Nat)(t: ~~~0):Bool:=decide ((bO t).sum=2 ^ (bq t).length)&&decide ((bq t).sum=(nn j:Int))&&decide (nn j+1<=(bO t).length)
def nrB(j:Nat):Bool:=(kinds j).all (kdC j)&&decide (xr j=fL j * YT j)&&decide (lZ j=(qM j).map λw=>fL j * w)&&decide (qM j=(qM j).reverse)&&decide ((qM j).sum=YT j)&&decide (gt (qM j) 0=1)&&decide (0<(qM j).length/\(qM j).length<=100)&&decide ((kinds j).length<=30)
structure Ak(rn:Nat->Rn)(n k:Nat)(j:Nat):Prop where
 a1:aQ (rn (n+117)) (k+12) x7 [.int j]=some (.new ((kinds j).map ∅))
 a2:aQ (rn (n+113)) (k+11) x7 [.int j]=some (.new ((kinds j).map ∅))
 a3:aQ (rn (n+116)) (k+11) x7 [.int j]=some (.new ((kinds j).map ∅))
 a4:aQ (rn (n+114)) (k+11) x7 [.int j]=some (.new ((kinds j).map ∅))
def bN:List Sm:=[(.set 7 (.call 32 [⇑0,⇑6])),(.set 8 (.call 9 [⇑0,⇑6])),(.set 2 (.bin .Add ⇑2 (.bin .Mult ⇑8 (.call 31 [⇑0,⇑6])))),(.set 5 (.comp 10 2 (.nm 11) (.dD (.blt .len [⇑5])) none (.bin .Add (.ix ⇑5 ⇑11) (.bin .Mult ⇑8 (.ix ⇑7 ⇑11))))),(.ite (.or [(.cmp .NotEq (.blt .sum [⇑7]) (.call 31 [⇑0,⇑6])),(.cmp .NotEq (.blt .sum [(.call 29 [⇑0,⇑6])]) (.bin .Sub (.blt .len [⇑5]) ↥1))]) (~~~4) [])]
section
variable{k n:Nat}{rn:Nat->Rn}(U:jt fns rn)
variable(sE:∀j:Nat,1<=j/\j<=9->(∀p∈prs j,∃a b:Int,p=[a,b]/\0<=a/\a<j/\0<=b/\b<j)/\(prs j).Nodup/\(prs j).length<=36)
include U
theorem q9{j:Nat}{t: ~~~0}(K:Kd j t):aQ (rn (n+60)) (k+6) (Ji 6 10) [.int j,~~~t]=some (.dat (.int (cnt j t))):=Uz U c0 c5 c1 c2 c4 c6 c10 K
include sE
theorem Py{j:Nat}{t: ~~~0}(K:Kd j t):aQ (rn (n+80)) (k+10) (sD 6 27 30) [.int j,~~~t]=some (.dat (~~~(bq t))):=NT U c0 c5 c1 c2 c4 c6 c24 c19 c23 c20 c27 c30 sE K
theorem Pz{j:Nat}{t: ~~~0}(K:Kd j t):aQ (rn (n+84)) (k+11) (Vz 3 29) [.int j,~~~t]=some (.dat (.int (2 ^ (bq t).length))):=YS U (n:=n+54) (k:=k+10) c29 rfl c3 K (Py U sE K)
theorem VF{j:Nat}{t: ~~~0}(K:Kd j t):aQ (rn (n+82)) (k+11) (YK 29) [.int j,~~~t]=some (.new ((bO t).map .int)):=YQ U (n:=n+52) (k:=k+10) c29 rfl K (Py U sE K)
theorem tnN{j:Nat}{t: ~~~0}(K:Kd j t)(hk:kdC j t=true)(a1 a3 a4 a7 a8 a9:Slot)(T:Int)(c: ~~~0)(hc:c.length=nn j+1):(rn (n+119)).b [] (k+13) bN [‹j›,a1,‹T›,a3,a4,.own (c.map .int),.dat (~~~t),a7,a8,a9]=some (.nx,[‹j›,a1,.dat (.int (JG j T t)),a3,a4,.own ((Jk j c t).map .int),.dat (~~~t),.own ((bO t).map .int),.dat (.int (cnt j t)),a9]):=by
 unfold kdC at hk;simp only[dE,dL]at hk;obtain⟨⟨h1,h2⟩,h3⟩:=hk;have q9:=λn k=>q9 U (n:=n) (k:=k) K
 have Py:=λn k=>Py U sE (n:=n) (k:=k) K
 have Pz:=λn k=>Pz U sE (n:=n) (k:=k) K
 have VF:=λn k=>VF U sE (n:=n) (k:=k) K
 have mu:=λx=>cR (cnt j t) x (.inl ⟨by have:=K.cn;lia,by have:=K.cn;lia⟩)
 have w4:=eW (rn:=rn (n+117)) (bor:=[]) (k:=k+13) (g:=[‹j›,a1,.dat (.int (JG j T t)),a3,a4,.own (c.map .int),.dat (~~~t),.own ((bO t).map .int),.dat (.int (cnt j t)),a9]) (g1:=[‹j›,a1,.dat (.int (JG j T t)),a3,a4,.own (c.map .int),.dat (~~~t),.own ((bO t).map .int),.dat (.int (cnt j t)),a9]) (kk:=2) (nn:=10) (j:=11) (it:=.dD (.blt .len [⇑5])) (e:=.bin .Add (.ix ⇑5 ⇑11) (.bin .Mult ⇑8 (.ix ⇑7 ⇑11))) (List.range c.length) (λ(i:Nat)=>D.int (i:Int)) (λ(i:Nat)=>.int (gt c i+cnt j t * gt (bO t) i)) (by
  have hr:bK 0 c.length=(List.range c.length).map λ(j:Nat)=>D.int (j:Int):=by unfold bK;exact mN λx _=>by rw[CD]
  simp! [U,cD,aD (c.length:Int) (by have:=Jl K.hj;lia),hr]) rfl ⋯ ⋯ ⋯ (au _ (by have:=Jl K.hj;rw[An];lia)) λi hi G' hG=>by
  rw[mI]at hi;have h5:G'[5]?=some (.own (c.map .int)):=hG.1 5 ⋯;have h7:G'[7]?=some (.own ((bO t).map .int)):=hG.1 7 ⋯;have h8:G'[8]?=some (.dat (.int (cnt j t))):=hG.1 8 ⋯;have i1:=cM (t:=c) (i:=(i:Int)) ⋯;have i2:=cM (t:=bO t) (i:=(i:Int)) ⋯;simp! [U,hG.2,h5,h7,h8,i1,i2,mu]
 have e4:(List.range c.length).map (λ(i:Nat)=>D.int (gt c i+cnt j t * gt (bO t) i))=(Jk j c t).map .int:=by unfold Jk;rw[List.map_map];rfl
 rw[e4]at w4;have hR:(Jk j c t).length=nn j+1:=by unfold Jk;rw[eA,An,hc]
 unfold bN;rw[U.b];refine (aB (g1:=[‹j›,a1,‹T›,a3,a4,.own (c.map .int),.dat (~~~t),.own ((bO t).map .int),a8,a9]) ?_).trans ?_
 . simp! [U,c32,aE (fx:=YK 29) rfl,VF]
 refine (aB (g1:=[‹j›,a1,‹T›,a3,a4,.own (c.map .int),.dat (~~~t),.own ((bO t).map .int),.dat (.int (cnt j t)),a9]) ?_).trans ?_
 . simp! [U,c9,aE (fx:=Ji 6 10) rfl,q9]
 refine (aB (g1:=[‹j›,a1,.dat (.int (JG j T t)),a3,a4,.own (c.map .int),.dat (~~~t),.own ((bO t).map .int),.dat (.int (cnt j t)),a9]) ?_).trans ?_
 . unfold JG;simp! [U,c31,aE (fx:=Vz 3 29) rfl,Pz,mu]
 refine (aB (g1:=[‹j›,a1,.dat (.int (JG j T t)),a3,a4,.own ((Jk j c t).map .int),.dat (~~~t),.own ((bO t).map .int),.dat (.int (cnt j t)),a9]) ?_).trans ?_
 . simp! [U,w4]
 refine (aB (g1:=[‹j›,a1,.dat (.int (JG j T t)),a3,a4,.own ((Jk j c t).map .int),.dat (~~~t),.own ((bO t).map .int),.dat (.int (cnt j t)),a9]) ?_).trans ?_
 .
  have b1:=kI (bO t);have b2:=wG (bq t);rw[h1]at b1;rw[h2]at b2;have e6:((nn j+1:Nat):Int) - 1=nn j:=by lia
  simp! [U,b1,b2,c31,aE (fx:=Vz 3 29) rfl,Pz,c29,aE (fx:=sD 6 27 30) rfl,Py,hR,e6]
 rfl
theorem lpN{j:Nat}(a1 a3 a4 a9:Slot):∀(l: ~~~5) (T:Int) (c: ~~~0) (a6 a7 a8:Slot),(∀t∈l,Kd j t/\kdC j t=true)->c.length=nn j+1->∃b6 b7 b8,dj (.nm 6) ((rn (n+119)).b [] (k+13) bN) (l.map ∅) [‹j›,a1,‹T›,a3,a4,.own (c.map .int),a6,a7,a8,a9]=some (.nx,[‹j›,a1,.dat (.int (l.foldl (JG j) T)),a3,a4,.own ((l.foldl (Jk j) c).map .int),b6,b7,b8,a9])
 | [],T,c,a6,a7,a8,_,_=>⟨a6,a7,a8,rfl⟩
 |t::l,T,c,a6,a7,a8,h,hc=>by
  obtain⟨K,hk⟩:=h t c8;obtain⟨b6,b7,b8,w⟩:=lpN a1 a3 a4 a9 l (JG j T t) (Jk j c t) (.dat (~~~t)) (.own ((bO t).map .int)) (.dat (.int (cnt j t))) (λx hx=>h x (bP _ hx)) (by unfold Jk;rw[eA,An,hc])
  refine⟨b6,b7,b8,?_⟩;rw[List.map_cons,fy (rfl:(Tg.nm 6).set _ _=_) (tnN U sE K hk a1 a3 a4 a7 a8 a9 T c hc)];exact w
omit sE in
theorem sN(J M:Int)(a1 a2 a3 a4:Slot)(zs:List D)(mu:nI .Mult (.int J) (.int (J - 1))=some (.dat (.int (J * (J - 1)))))(dv:nI .FloorDiv (.int (J * (J - 1))) (.int 2)=some ‹M›)(zz:nI .Mult (.lst [.int 0]) (.int (M+1))=some (.new zs)):aK (rn (n+119)) [] (k+13) (.set 5 (.bin .Mult (.lst [↥0]) (.bin .Add (.bin .FloorDiv (.bin .Mult ⇑0 (.bin .Sub ⇑0 ↥1)) ↥2) ↥1))) [‹J›,a1,a2,a3,a4,.no,.no,.no,.no,.no]=some (.nx,[‹J›,a1,a2,a3,a4,.own zs,.no,.no,.no,.no]):=by simp! [U,mu,dv,zz,au 1 ⋯]
omit sE in
theorem prN(j:Nat)(hj:1<=j/\j<=9)(a2 a3:Slot):∃b4,aK (rn (n+119)) [] (k+13) (.loop (.nm 4) (.cL ↥2 (.bin .Add ⇑0 ↥1)) [(.set 1 (.bin .Mult ⇑1 ⇑4))]) [‹j›,‹1›,a2,a3,.no,.no,.no,.no,.no,.no]=some (.nx,[‹j›,.dat (.int (fL j)),a2,a3,b4,.no,.no,.no,.no,.no]):=by
 obtain⟨g',⟨i,b2,hi,hl,rfl⟩,w⟩:=cQ (T:=.nm 4) (b:=(rn (n+119)).b [] (k+13) [(.set 1 (.bin .Mult ⇑1 ⇑4))]) (λ(j:Nat)=>D.int (2+(j:Int)))
  (I:=λl g=>∃(i:Nat) (b4:Slot),i+1<=j/\l=List.range' i (j - 1 - i)/\g=[‹j›,.dat (.int (fL (i+1))),a2,a3,b4,.no,.no,.no,.no,.no])
  (step:=λa l g h=>by
   obtain⟨i,b2,hi,hl,rfl⟩:=h;cases hmi:j - 1 - i with
   |zero=>rw[hmi]at hl;cases hl
   |succ q=>
    rw[hmi,AC]at hl;obtain⟨rfl,rfl⟩:=List.cons.inj hl;have e:nI .Mult (.int (fL (a+1))) (.int (2+(a:Int)))=some (.dat (.int (fL (a+1+1)))):=by
     rw[cR _ _ (.inr ⟨by lia,by lia⟩)]
     show _=some (R.dat (D.int (fL (a+1) * ((a+1+1:Nat):Int))));rw[show 2+(a:Int)=((a+1+1:Nat):Int)by lia]
    refine⟨_,_,rfl,?_,a+1,.dat (.int (2+(a:Int))),by lia,by rw[show j - 1 - (a+1)=q by lia],rfl⟩
    show (rn (n+119)).b [] (k+13) _ [‹j›,.dat (.int (fL (a+1))),a2,a3,.dat (.int (2+(a:Int))),.no,.no,.no,.no,.no]=_;simp! [U,e]) (List.range (j - 1)) [‹j›,‹1›,a2,a3,.no,.no,.no,.no,.no,.no] ⟨0,.no,by lia,by rw[u7];rfl,rfl⟩
 have hmi:j - 1 - i=0:=by have:=congrArg List.length hl;rw[B0]at this;exact this.symm
 have hi':i+1=j:=by lia
 rw[hi']at w;refine⟨b2,?_⟩;generalize hb:(rn (n+119)).b [] (k+13) [(.set 1 (.bin .Mult ⇑1 ⇑4))]=bb at w;have e1:((j:Int)+1 - 2).toNat=j - 1:=by lia
 simp! [U,cD,Tg.ix,Tg.eT,aD 2 ⋯,aD ((j:Int)+1) ⋯,bK,e1,hb,w]
theorem Y4(j:Nat)(hj:1<=j/\j<=9)(hK:∀t∈kinds j,Kd j t)(hn:nrB j=true)(A:Ak rn n k j):aQ (rn (n+120)) (k+13) Y0 [.int j]=some (.dat (.bl true)):=by
 unfold nrB at hn;simp only[dE,dL,eM]at hn;obtain⟨⟨⟨⟨⟨⟨⟨h1,h2⟩,h3⟩,h4⟩,h5⟩,h6⟩,h7⟩,h8⟩:=hn;have q9:=λn k (t: ~~~0) (ht:t∈kinds j)=>q9 U (n:=n) (k:=k) (hK t ht)
 have Pz:=λn k (t: ~~~0) (ht:t∈kinds j)=>Pz U sE (n:=n) (k:=k) (hK t ht)
 have VF:=λn k (t: ~~~0) (ht:t∈kinds j)=>VF U sE (n:=n) (k:=k) (hK t ht)
 obtain⟨b4,s2⟩:=prN U (n:=n) (k:=k) j hj ‹0› (.dat (.lst ((kinds j).map ∅)))
 obtain⟨N,hN⟩:∃N:Nat,N=nn j:=⟨_,rfl⟩;have h36:=Jl hj;rw[<- hN]at h36;have mu:=cR (j:Int) ((j:Int) - 1) (.inl ⟨by lia,by lia⟩)
 have dv:=fZ ((j:Int) * ((j:Int) - 1)) 2 ⋯;have eN:(j:Int) * ((j:Int) - 1) / 2=N:=by
  rw[hN,show (j:Int) - 1=((j - 1:Nat):Int)by lia]
  rfl
 rw[eN]at dv;have zz:=qk ((N:Int)+1) ⟨by lia,by lia⟩
 rw[show ((N:Int)+1).toNat=N+1 by lia]at zz
 obtain⟨zs,hzs⟩:∃zs:List Int,zs=List.replicate (N+1) (0:Int):=⟨_,rfl⟩;rw[<- hzs]at zz;have s3:=sN U (n:=n) (k:=k) (j:Int) N (.dat (.int (fL j))) ‹0› (.dat (.lst ((kinds j).map ∅))) b4 _ mu dv zz
 obtain⟨b6,b7,b8,lp⟩:=lpN U sE (n:=n) (k:=k) (j:=j) (.dat (.int (fL j))) (.dat (.lst ((kinds j).map ∅))) b4 .no (kinds j) 0 zs .no .no .no (λt ht=>⟨hK t ht,h1 t ht⟩) (by rw[hzs,i6,hN])
 have lp':dj (.nm 6) ((rn (n+119)).b [] (k+13) bN) ((kinds j).map ∅) [‹j›,.dat (.int (fL j)),‹0›,.dat (.lst ((kinds j).map ∅)),b4,.own (zs.map .int),.no,.no,.no,.no]=some (.nx,[‹j›,.dat (.int (fL j)),.dat (.int (xr j)),.dat (.lst ((kinds j).map ∅)),b4,.own ((lZ j).map .int),b6,b7,b8,.no]):=by rw[lp];unfold xr lZ;rw[hzs,hN]
 have s1:aK (rn (n+119)) [] (k+13) (.tgt (.tp [1,2,3]) (.tup [↥1,↥0,(.call 7 [⇑0])])) [‹j›,.no,.no,.no,.no,.no,.no,.no,.no,.no]=some (.nx,[‹j›,‹1›,‹0›,.dat (.lst ((kinds j).map ∅)),.no,.no,.no,.no,.no,.no]):=by have a1:=A.a1;simp! [U,c7,aJ (fx:=x7) rfl,a1,au 3 ⋯];rfl
 have s4:aK (rn (n+119)) [] (k+13) (.loop (.nm 6) ⇑3 bN) [‹j›,.dat (.int (fL j)),‹0›,.dat (.lst ((kinds j).map ∅)),b4,.own (zs.map .int),.no,.no,.no,.no]=some (.nx,[‹j›,.dat (.int (fL j)),.dat (.int (xr j)),.dat (.lst ((kinds j).map ∅)),b4,.own ((lZ j).map .int),b6,b7,b8,.no]):=by
  generalize hb:(rn (n+119)).b [] (k+13) bN=bb at lp';unfold bN at hb ⊢
  simp! [U,cD,Tg.ix,Tg.eT,hb,lp']
 have wb:=YW U c7 rfl c9 rfl c10 (n:=n+88) (k:=k+11) c32 rfl hj h8 A.a3 λt ht=>⟨hK t ht,q9 _ _ t ht,VF _ _ t ht⟩
 have s5:aK (rn (n+119)) [] (k+13) (.set 9 (.call 34 [⇑0])) [‹j›,.dat (.int (fL j)),.dat (.int (xr j)),.dat (.lst ((kinds j).map ∅)),b4,.own ((lZ j).map .int),b6,b7,b8,.no]=some (.nx,[‹j›,.dat (.int (fL j)),.dat (.int (xr j)),.dat (.lst ((kinds j).map ∅)),b4,.own ((lZ j).map .int),b6,b7,b8,.own ((qM j).map .int)]):=by simp! [U,c34,aJ (fx:=wbX 7 9 32 10) rfl,wb]
 have wm:=Pw U c7 rfl c9 rfl c10 (n:=n+85) (k:=k+11) c31 rfl hj hK h8 A.a2 (q9 _ _) (Pz _ _);have mf:=λx=>cR (fL j) x (.inl ⟨by have:=uG hj;lia,by have:=uG hj;lia⟩)
 have w6:=eW (rn:=rn (n+116)) (bor:=[]) (k:=k+13) (g:=[‹j›,.dat (.int (fL j)),.dat (.int (fL j * YT j)),.dat (.lst ((kinds j).map ∅)),b4,.own ((lZ j).map .int),b6,b7,b8,.own ((qM j).map .int)]) (g1:=[‹j›,.dat (.int (fL j)),.dat (.int (fL j * YT j)),.dat (.lst ((kinds j).map ∅)),b4,.own ((lZ j).map .int),b6,b7,b8,.dat (.lst ((qM j).map .int))]) (kk:=2) (nn:=10) (j:=11) (it:=.slot 9) (e:=.bin .Mult ⇑1 ⇑11) (qM j) .int (λx=>.int (fL j * x)) (by simp! [U,cD]) rfl ⋯ ⋯ ⋯ (au _ ⋯) λx hx G' hG=>by
  have g1:G'[1]?=some (.dat (.int (fL j))):=hG.1 1 ⋯;simp! [U,hG.2,g1,mf]
 have e6:(qM j).map (λx=>D.int (fL j * x))=(lZ j).map .int:=by rw[h3,List.map_map];rfl
 rw[e6]at w6;have ne:=yO (lZ j) (lZ j);rw[l7 rfl]at ne;have s6:aK (rn (n+119)) [] (k+13) (.ite (.or [(.cmp .NotEq ⇑2 (.bin .Mult ⇑1 (.call 33 [⇑0]))),(.cmp .NotEq ⇑5 (.comp 10 2 (.nm 11) ⇑9 none (.bin .Mult ⇑1 ⇑11)))]) (~~~4) []) [‹j›,.dat (.int (fL j)),.dat (.int (xr j)),.dat (.lst ((kinds j).map ∅)),b4,.own ((lZ j).map .int),b6,b7,b8,.own ((qM j).map .int)]=some (.nx,[‹j›,.dat (.int (fL j)),.dat (.int (xr j)),.dat (.lst ((kinds j).map ∅)),b4,.own ((lZ j).map .int),b6,b7,b8,.dat (.lst ((qM j).map .int))]):=by rw[h2];simp! [U,c33,aJ (fx:=VB 7 9 31 10) rfl,wm,mf,w6,ne]
 have wm2:=Pw U c7 rfl c9 rfl c10 (n:=n+86) (k:=k+11) c31 rfl hj hK h8 A.a4 (q9 _ _) (Pz _ _);have b1:=kI (qM j);rw[h5]at b1;have ix:=cM (t:=qM j) (i:=0) ⋯;rw[h6]at ix;have er:=HX (qM j) (qM j).reverse;rw[l7 h4,CM]at er;unfold aQ Y0;show (match (rn (n+120)).b [] (k+13) _ [‹j›,.no,.no,.no,.no,.no,.no,.no,.no,.no]with |some (.rt r,gc)=>gZ [] gc r |some (.nx,_)=>some (.dat .non) |_=>none)=_
 rw[U.b,aB s1,aB s2,aB s3];unfold bN at s4;rw[aB s4,aB s5,aB s6];simp! [U,er,b1,c33,aJ (fx:=VB 7 9 31 10) rfl,wm2,ix]
end
end bJ
namespace Ev
def UJ(m:Nat)(t: ~~~0):Bool:=(nums m).all λs=>(zZ t s 6 [s]).isSome
theorem okE1:(eY (nums 1)).all (UJ 1)=true:=by decide +kernel
theorem okE2:(eY (nums 2)).all (UJ 2)=true:=by decide +kernel
theorem okE3:(eY (nums 3)).all (UJ 3)=true:=by decide +kernel
theorem okE4:(eY (nums 4)).all (UJ 4)=true:=by decide +kernel
theorem okE5:(eY (nums 5)).all (UJ 5)=true:=by decide +kernel
theorem okE6:(eY (nums 6)).all (UJ 6)=true:=by decide +kernel
theorem Tn.ends{m:Nat}{t: ~~~0}(hm:1<=m/\m<=6)(h:Tn m t):Ends m t:=λs hs=>by
 have k:(eY (nums m)).all (UJ m)=true:=by
  obtain⟨h1,h2⟩:=hm
  match m,h1,h2 with
  | 1,_,_=>exact okE1
  | 2,_,_=>exact okE2
  | 3,_,_=>exact okE3
  | 4,_,_=>exact okE4
  | 5,_,_=>exact okE5
  | 6,_,_=>exact okE6
 have q:=eM.mp (eM.mp k t (mX h.perm)) s (cN.mpr hs);refine⟨q,λe=>?_⟩
 cases e2:zZ t s 6 [s]with
 |none=>rw[e2]at q;cases q
 |some r=>obtain⟨l,rfl⟩:=wR 6 [] _ e2;unfold DR at e;rw[e2]at e;cases e
end Ev
namespace bJ
open Ev
def qo(m:Nat)(t: ~~~0):Bool:=JF m t&&decide (bh (fP (eX m t))=bh (Pq (knd m t)))&&decide (knd m t∈kinds m)
theorem UL{l:List D}(h:∀x∈l,iZ x=true/\dep x<=5):fT .Eq (.lst l) (.lst [])=some l.isEmpty:=by
 have h1:fS l=true:=wL λx hx=>(h x hx).1
 have h2:deps l<=5:=wM λx hx=>(h x hx).2
 have h3:dep (.lst l)<=190:=by show deps l+1<=190;lia
 have:kr (.lst l) (.lst [])=true:=by simp only[kr,iZ,h1,fS,Bool.and_true,Bool.true_and,dL];exact h3
 simp only[fT,this,yA,cP];cases l <;> rfl
theorem Jm(l: ~~~5)(x: ~~~0):Ut l x=decide (x∈l):=by
 unfold Ut;rw[List.any_map,At,BD,dL];constructor
 . rintro⟨a,ha,e⟩;have e':dB (a.map .int) (x.map .int)=true:=e;rw[dz,dL]at e';rw[<- e'];exact ha
 . intro h;refine⟨x,h,?_⟩;show dB (x.map .int) (x.map .int)=true;rw[dz,dL]
theorem N1(l: ~~~5)(x: ~~~0):fT .In (~~~x) (.tup (l.map ∅))=some (decide (x∈l)):=by rw[<- Jm];exact yX l x
section
variable{k n:Nat}{rn:Nat->Rn}(U:jt fns rn)
variable(sE:∀j:Nat,1<=j/\j<=9->(∀p∈prs j,∃a b:Int,p=[a,b]/\0<=a/\a<j/\0<=b/\b<j)/\(prs j).Nodup/\(prs j).length<=36)
include U
theorem q16(m:Nat)(t: ~~~0)(hm:1<=m/\m<=6)(ht:Tn m t):aQ (rn (n+48)) (k+5) (bB 15 2) [.int m,~~~t]=some (.dat .non):=(qa U c0 c1 c2 c15 (cj:=2) m t hm ht).1
theorem q25(m:Nat)(t: ~~~0)(hm:1<=m/\m<=6)(ht:Tn m t):aQ (rn (n+80)) (k+7) (wN 22) [.int m,~~~t]=some (.dat (~~~(knd m t))):=Nj U c24 c0 c1 c2 c15 c16 c23 c22 m t hm ht (ht.ends hm)
theorem q35(m:Nat)(hm:1<=m/\m<=6)(ao: ~~~5)(h:Wb m ao):aQ (rn (n+90)) (k+8) (Ja 14 36) [W m ao]=some (.new ((led m ao m ao).map λr=>~~~r)):=Uq U c0 c1 c12 c13 c11 c14 c21 c37 c36 m hm ao h
theorem q17(m:Nat)(ao: ~~~5)(t: ~~~0)(hm:1<=m/\m<=6)(h:Wb m ao)(ht:Tn m t):aQ (rn (n+90)) (k+8) (kM 14 16 18) [W m ao,~~~t]=some (.dat (W m (tw t ao))):=Dg U c19 c0 c1 c2 c15 c16 c12 c13 c11 c14 c18 m ao t hm h ht
theorem JD(m:Nat)(ao: ~~~5)(t: ~~~0)(hm:1<=m/\m<=6)(h:Wb m ao)(ht:Tn m t):aQ (rn (n+95)) (k+9) YZ [W m ao,~~~t]=some (.dat (.bl (decide (tw t ao=ao)))):=by
 have q:=λn k=>q17 U (n:=n) (k:=k) m ao t hm h ht
 have e:fT .Eq (W m (tw t ao)) (W m ao)=some (decide (tw t ao=ao)):=by
  show (if kr (W m (tw t ao)) (W m ao)=true then some (cP (W m (tw t ao)) (W m ao))else none)=_
  rw[fN (Ui m m _ _),YC]
 unfold aQ YZ;simp! [U,c17,aE (fx:=kM 14 16 18) rfl,q,e]
include sE
theorem VG(m:Nat)(t: ~~~0)(hm:1<=m/\m<=6)(ht:Tn m t)(ok:JF m t=true):aQ (rn (n+66)) (k+6) VD [.int m,~~~t]=some (.new ((eX m t).map λr=>.tup (r.map ∅))):=by
 unfold JF at ok;simp only[dE]at ok;obtain⟨f1,f2,f3⟩:=sE m ⟨hm.1,by lia⟩
 have qp:=λn k=>Jg U (n:=n) (k:=k) m ⋯ ⋯
 have q1:=λn k=>Iw U c24 c19 c23 c20 (n:=n) (k:=k) m ⟨hm.1,by lia⟩ t ht.length (prs m) (qp _ _) rfl f1 f2 ⋯ ok.1.1.1.1
 have q0:=λn k=>q16 U (n:=n) (k:=k) m t hm ht
 unfold aQ VD eX;simp! [U,c16,aE (fx:=bB 15 2) rfl,q0,c27,aJ (fx:=yS 20 23 19) rfl,q1]
theorem PB(m:Nat)(ao: ~~~5)(t: ~~~0)(hm:1<=m/\m<=6)(h:Wb m ao)(ht:Tn m t)(ok:qo m t=true)(hK:∀t∈kinds m,Kd m t):aQ (rn (n+120)) (k+13) Y3 [W m ao,~~~t]=some (.dat (.bl true)):=by
 unfold qo at ok;simp only[dE,dL]at ok;obtain⟨⟨ok,o2⟩,o3⟩:=ok;have hd:=Dm hm ht h ok;have o5:(eX m t).length<=15:=by unfold JF at ok;simp only[dE,dL]at ok;exact ok.2
 have rl:∀r∈eX m t,r.length<=41:=λr hr=>by
  unfold JF at ok;simp only[dE]at ok;unfold eX rY at hr;obtain⟨p,hpp,rfl⟩:=fR.mp (i9.mp hr).1;exact (fO ok.1.1.1.1 hpp).2.2.2.2.1
 have i0:uO (W m ao) (.int 0)=some (.int m):=rfl;have i1:uO (W m ao) (.int 1)=some (.tup (ao.map ∅)):=rfl
 have VG:=λn k=>VG U sE (n:=n) (k:=k) m t hm ht ok
 have q25:=λn k=>q25 U (n:=n) (k:=k) m t hm ht
 have Py:=λn k=>Py U sE (n:=n) (k:=k) (hK _ o3)
 have JD:=λn k=>JD U (n:=n) (k:=k) m ao t hm h ht
 have q35:=λn k=>q35 U (n:=n) (k:=k) m hm ao h
 have s1:aK (rn (n+119)) [] (k+13) (.set 2 (.call 26 [(.ix ⇑0 ↥0),⇑1])) [.dat (W m ao),.dat (~~~t),.no,.no,.no]=some (.nx,[.dat (W m ao),.dat (~~~t),.own ((eX m t).map λr=>.tup (r.map ∅)),.no,.no]):=by simp! [U,i0,c26,aE (fx:=VD) rfl,VG]
 have w2:=eW (rn:=rn (n+115)) (bor:=[]) (k:=k+13) (g:=[.dat (W m ao),.dat (~~~t),.own ((eX m t).map λr=>.tup (r.map ∅)),.no,.no]) (g1:=[.dat (W m ao),.dat (~~~t),.dat (.lst ((eX m t).map λr=>.tup (r.map ∅))),.no,.no]) (kk:=2) (nn:=5) (j:=6) (it:=.slot 2) (e:=.blt .len [⇑6]) (eX m t) (λr=>.tup (r.map ∅)) (λr=>.int (r.length:Nat)) (by simp! [U,cD]) rfl ⋯ ⋯ ⋯ (au _ ⋯) λr hr G' hG=>by
  simp! [U,hG.2]
 have e2:(eX m t).map (λr=>D.int (r.length:Nat))=(fP (eX m t)).map .int:=by unfold fP;rw[List.map_map];rfl
 rw[e2]at w2;have so:=mU (fP (eX m t)) (by unfold fP;rw[eA];lia)
 have e3:(~~~(bq (knd m t)))=.tup ((bh (fP (eX m t))).map D.int).reverse:=by unfold bq;rw[o2,CM]
 have s2:aK (rn (n+119)) [] (k+13) (.set 3 (.blt .tuple [(.rev (.blt .sorted [(.comp 5 2 (.nm 6) ⇑2 none (.blt .len [⇑6]))]))])) [.dat (W m ao),.dat (~~~t),.own ((eX m t).map λr=>.tup (r.map ∅)),.no,.no]=some (.nx,[.dat (W m ao),.dat (~~~t),.dat (.lst ((eX m t).map λr=>.tup (r.map ∅))),.dat (~~~(bq (knd m t))),.no]):=by rw[e3];simp! [U,w2,so]
 have s3:aK (rn (n+119)) [] (k+13) (.ite (.cmp .NotEq (.call 29 [(.ix ⇑0 ↥0),(.call 25 [(.ix ⇑0 ↥0),⇑1])]) ⇑3) (~~~4) []) [.dat (W m ao),.dat (~~~t),.dat (.lst ((eX m t).map λr=>.tup (r.map ∅))),.dat (~~~(bq (knd m t))),.no]=some (.nx,[.dat (W m ao),.dat (~~~t),.dat (.lst ((eX m t).map λr=>.tup (r.map ∅))),.dat (~~~(bq (knd m t))),.no]):=by have ne:=HW (bq (knd m t)) (bq (knd m t));rw[l7 rfl]at ne;simp! [U,i0,c25,aE (fx:=wN 22) rfl,q25,c29,aE (fx:=sD 6 27 30) rfl,Py,ne]
 have w4:=Uw (rn:=rn (n+117)) (bor:=[]) (k:=k+13) (g:=[.dat (W m ao),.dat (~~~t),.dat (.lst ((eX m t).map λr=>.tup (r.map ∅))),.dat (~~~(bq (knd m t))),.no]) (g1:=[.dat (W m ao),.dat (~~~t),.dat (.lst ((eX m t).map λr=>.tup (r.map ∅))),.dat (~~~(bq (knd m t))),.no]) (kk:=2) (nn:=5) (j:=6) (it:=.slot 2) (c:=some (.chain ↥0 [.Lt,.Lt] [(.blt .len [(.comp 8 2 (.nm 9) ⇑6 (some (.cmp .In ⇑9 (.ix ⇑0 ↥1))) ⇑9)]),(.blt .len [⇑6])])) (e:=.slot 6) (eX m t) (λr=>.tup (r.map ∅)) (yZ ao) (λr=>.tup (r.map ∅)) (by simp! [U,cD]) rfl ⋯ ⋯ ⋯ (au _ ⋯) (λr hr G' hG=>by
  have h0:G'[0]?=some (.dat (W m ao)):=hG.1.1 0 ⋯;have h6:=hG.1.2;have hl:8=G'.length:=by rw[hG.2];rfl
  have w5:=rM (rn:=rn (n+114)) (bor:=[]) (k:=k+13) (g:=G') (g1:=G') (kk:=2) (nn:=8) (j:=9) (it:=.slot 6) (c:=some (.cmp .In ⇑9 (.ix ⇑0 ↥1))) (e:=.slot 9) r ∅ (λx=>decide (x∈ao)) ∅ (by simp! [U,cD,h6]) hl ⋯ ⋯ ⋯ (au _ (by have:=rl r hr;lia)) (λx hx G2 hG2=>by
   have h0':G2[0]?=some (.dat (W m ao)):=by rw[hG2.1 0 ⋯];exact h0
   have ci:=N1 ao x;simp! [U,mR,h0',hG2.2,i1,ci]) (λx hx _ G2 hG2=>by simp! [U,hG2.2])
  have hfl:((r.filter λx=>decide (x∈ao)).map ∅).length=wZ ao r:=by rw[eA];rfl
  generalize ((r.filter λx=>decide (x∈ao)).map ∅)=fl at w5 hfl
  have hc:yZ ao r=(decide (0<wZ ao r)&&decide (wZ ao r<r.length)):=rfl;rw[hc];generalize wZ ao r=T at hfl;cases hT:decide (0<T)with
  |true=>
   have Ju:decide ((0:Int)<T)=true:=by have:=l9 hT;exact l7 ⋯
   simp! [U,mR,w5,h6,hfl,fT,X4,Ju];rw[hT]
  |false=>
   have Ju:decide ((0:Int)<T)=false:=by have:=AW hT;exact pV ⋯
   simp! [U,mR,w5,h6,hfl,fT,X4,Ju];rw[hT]) (λr hr _ G' hG=>by simp! [U,hG.1.2])
 have hcm:fT .Eq (.lst (((eX m t).filter (yZ ao)).map λr=>.tup (r.map ∅))) (.lst [])=some (decide (tw t ao=ao)):=by
  rw[UL λx hx=>by
   obtain⟨r,_,rfl⟩:=fR.mp hx;have:=lV r;exact⟨lU r,by show deps (r.map ∅)+1<=5;lia⟩]
  congr 1
  rw[List.isEmpty_map,At,List.isEmpty_iff,dL];exact hd
 have s4:aK (rn (n+119)) [] (k+13) (.set 4 (.cmp .Eq (.comp 5 2 (.nm 6) ⇑2 (some (.chain ↥0 [.Lt,.Lt] [(.blt .len [(.comp 8 2 (.nm 9) ⇑6 (some (.cmp .In ⇑9 (.ix ⇑0 ↥1))) ⇑9)]),(.blt .len [⇑6])])) ⇑6) (.lst []))) [.dat (W m ao),.dat (~~~t),.dat (.lst ((eX m t).map λr=>.tup (r.map ∅))),.dat (~~~(bq (knd m t))),.no]=some (.nx,[.dat (W m ao),.dat (~~~t),.dat (.lst ((eX m t).map λr=>.tup (r.map ∅))),.dat (~~~(bq (knd m t))),.dat (.bl (decide (tw t ao=ao)))]):=by
  generalize (((eX m t).filter (yZ ao)).map λr=>D.tup (r.map ∅))=qqz at w4 hcm
  simp! [U,w4,hcm]
 have hin:fT .In (~~~t) (.lst ((led m ao m ao).map λr=>~~~r))=some (decide (tw t ao=ao)):=by
  rw[yX,Jm]
  congr 1
  unfold led;rw[decide_eq_decide,i9];simp only[true_and,dL];exact⟨λz=>z.2,λz=>⟨ni ht,z⟩⟩
 unfold aQ Y3;show (match (rn (n+120)).b [] (k+13) _ [.dat (W m ao),.dat (~~~t),.no,.no,.no]with |some (.rt r,gc)=>gZ [] gc r |some (.nx,_)=>some (.dat .non) |_=>none)=_
 rw[U.b,aB s1,aB s2,aB s3,aB s4];generalize decide (tw t ao=ao)=B at JD hin;have eb:fT .Eq (.bl B) (.bl B)=some true:=by rw[IW];simp
 simp! [U,c28,aE (fx:=YZ) rfl,JD,c35,aJ (fx:=Ja 14 36) rfl,q35,hin,eb]
end
end bJ
namespace bJ
open Ev
structure Fk(rn:Nat->Rn)(n k:Nat):Prop where
 ak:∀j:Nat,1<=j/\j<=9->Ak rn (n+5) k j
 kd:∀j:Nat,1<=j/\j<=9->∀t∈kinds j,Kd j t
 nr:∀j:Nat,1<=j/\j<=9->nrB j=true
 pr:∀j:Nat,1<=j/\j<=9->(∀p∈prs j,∃a b:Int,p=[a,b]/\0<=a/\a<j/\0<=b/\b<j)/\(prs j).Nodup/\(prs j).length<=36
 tk:∀m:Nat,1<=m/\m<=6->∀t,Tn m t->qo m t=true
noncomputable def Ai:List Sm:=match Px.body with |_::.loop _ _ b::_=>b |_=>[]
def xu:List Sm:=[(.set 5 (.bin .Add ⇑5 (.bin .Mult (.blt .list [⇑6]) (.call 40 [⇑2,↥2]))))]
section
variable{k n:Nat}{g g1:G}{rn:Nat->Rn}(U:jt fns rn)(F:Fk rn n k)
include U
omit U in
theorem mulB(l:List D)(v:Int)(h:0<=v/\v<2)(hl:l.length<=900):nI .Mult (.lst l) (.int v)=some (.new (if v=1 then l else [])):=by
 show (if -(2 ^ 63)<=v/\v<2 ^ 63/\l.length * v.toNat<=lim then some (R.new (List.replicate v.toNat l).flatten)else none)=_
 have hv:l.length * v.toNat<=lim:=au _ (by
  have:l.length * v.toNat<=l.length * 1:=Cf (eD _) ⋯;lia)
 rw[fN ⟨by lia,by lia,hv⟩]
 rcases (by lia:v=0\/v=1)with e |e
 . rw[e];rfl
 . rw[e,fN rfl,show (1:Int).toNat=1 from rfl,List.replicate_one,B6]
theorem UT(A0 A1 A3 A4:Slot)(s:Int)(fl:Bool)(l: ~~~5)(r: ~~~5)(h:l.length+r.length<=900):∃(s':Int) (b:Bool),(rn (n+129)).b [] (k+14) xu [A0,A1,St s fl,A3,A4,.own (l.map ∅),.dat (.tup (r.map ∅))]=some (.nx,[A0,A1,St s' fl,A3,A4,.own ((l++if b=true then r else []).map ∅),.dat (.tup (r.map ∅))]):=by
 obtain⟨v,s',h1,h2,q⟩:=gf U (n:=n+105) (k:=k+13) (g:=[A0,A1,St s fl,A3,A4,.own (l.map ∅),.dat (.tup (r.map ∅))]) (i:=2) (s:=s) (fl:=fl) (m:=2) rfl ⋯
 have q':bG (rn (n+125)) cU (k+13) [.var 2,‹2›] [A0,A1,St s fl,A3,A4,.own (l.map ∅),.dat (.tup (r.map ∅))]=some (‹v›,[A0,A1,St s' fl,A3,A4,.own (l.map ∅),.dat (.tup (r.map ∅))]):=q
 refine⟨s',decide (v=1),?_⟩;have e1:nI .Mult (.lst (r.map ∅)) (.int v)=some (.new ((if decide (v=1)=true then r else []).map ∅)):=by
  rw[mulB _ v ⟨h1,h2⟩ (by rw[eA];lia)]
  by_cases e:v=1
  . rw[fN e,fN (l7 e)]
  .
   rw[hU e,hU (by rw[dL];exact e)]
   rfl
 generalize hz:(if decide (v=1)=true then r else [])=z at e1
 have hzl:z.length<=r.length:=by
  rw[<- hz];split
  . exact eD _
  . exact wP _
 have e2:=uw (l.map ∅) (z.map ∅) (by rw[eA,eA];lia)
 rw[<- nN]at e2;unfold xu;simp! [U,c40,q',e1,e2]
include F
theorem cell(ns: ~~~0)(hl:ns.length<=63)(i:Nat)(a2 a3 a4 a5 a6:Slot):∃b2 b3 b4 b5 b6,(rn (n+130)).b [] (k+14) Ai [.dat (.fix (ns.map .int)),‹i›,a2,a3,a4,a5,a6]=some (.nx,[.dat (.fix (ns.map .int)),‹i›,b2,b3,b4,b5,b6]):=by
 obtain⟨s,fl,q1⟩:=Ie U c38 (n:=n+88) (k:=k+12) ns ⋯ i;generalize YX:Slot.dat (.fix (ns.map .int))=A0;generalize NZ:Slot.dat (.int (i:Int))=A1;obtain⟨m,ao,s1,hm,h,q2⟩:=Uv U c40 c41 c42 (n:=n+48) (k:=k+10) (g:=[A0,A1,St s fl,a3,a4,a5,a6]) (i:=2) (s:=s) (fl:=fl) rfl;have FJ:bG (rn (n+128)) (Dl 40 41 42) (k+13) [.var 2,‹6›] [A0,A1,St s fl,a3,a4,a5,a6]=some (.dat (W m ao),[A0,A1,St s1 fl,a3,a4,a5,a6]):=q2;have i0:uO (W m ao) (.int 0)=some (.int m):=rfl;obtain⟨t,s2,ht,q3⟩:=Ng U c40 c42 (n:=n+48) (k:=k+11) (g:=[A0,A1,St s1 fl,.dat (W m ao),a4,a5,a6]) (i:=2) (s:=s1) (fl:=fl) m hm rfl;have RD:bG (rn (n+128)) (mW 40 42) (k+13) [.var 2,‹m›] [A0,A1,St s1 fl,.dat (W m ao),a4,a5,a6]=some (.dat (~~~t),[A0,A1,St s2 fl,.dat (W m ao),a4,a5,a6]):=q3;have tk:=F.tk m hm t ht;have ok:JF m t=true:=by unfold qo at tk;simp only[dE]at tk;exact tk.1.1
 have VG:=λn k=>VG U F.pr (n:=n) (k:=k) m t hm ht ok
 have sl:∀sel:List (~~~5),sel.Sublist (eX m t)->sel.flatten.length<=15:=λsel hs=>by
  have:=(qj hm ok hs).len;rw[(bV (O:=dR) sel.flatten).length_eq]at this;exact this
 obtain⟨g',⟨dn,s3,sel,b6,hd,hs,rfl⟩,lp⟩:=cQ (T:=.nm 6) (b:=(rn (n+129)).b [] (k+14) xu) (λ(r: ~~~5)=>D.tup (r.map ∅))
  (I:=λl g=>∃(dn:List (~~~5)) (s:Int) (sel:List (~~~5)) (b6:Slot),eX m t=dn++l/\sel.Sublist dn/\g=[A0,A1,St s fl,.dat (W m ao),.dat (~~~t),.own (sel.flatten.map ∅),b6])
  (step:=λr l g hI=>by
   obtain⟨dn,s,sel,b6,hd,hs,rfl⟩:=hI;have hs2:(sel++[r]).Sublist (dn++[r]):=hs.append (y7 [r]);have hs3:(sel++[r]).Sublist (eX m t):=hs2.trans (by rw[hd,List.append_cons dn r l];exact List.sublist_append_left _ _)
   have aL:=sl _ hs3;rw[List.flatten_append,B6,eC]at aL;obtain⟨s',b,q⟩:=UT U (n:=n) (k:=k) A0 A1 (.dat (W m ao)) (.dat (~~~t)) s fl sel.flatten r ⋯;refine⟨_,_,rfl,q,dn++[r],s',sel++(if b=true then [r]else []),.dat (.tup (r.map ∅)),by rw[hd,wE];rfl,?_,?_⟩
   .
    cases b
    . rw[hU ⋯,n0];exact hs.trans (List.sublist_append_left _ _)
    . exact hs2
   .
    cases b
    . rw[hU ⋯,hU ⋯,n0,n0]
    .
     rw[fN rfl,fN rfl,List.flatten_append,B6]) (eX m t) [A0,A1,St s2 fl,.dat (W m ao),.dat (~~~t),.own [],a6] ⟨[],s2,[],a6,rfl,y7 _,rfl⟩
 rw[n0]at hd;subst hd;have Ow:=qj hm ok hs;have hFl:=sl _ hs;generalize sel.flatten=FL at lp Ow hFl;have e5:aK (rn (n+129)) [] (k+14) (.loop (.nm 6) (.call 26 [(.ix ⇑3 ↥0),⇑4]) xu) [A0,A1,St s2 fl,.dat (W m ao),.dat (~~~t),.own [],a6]=some (.nx,[A0,A1,St s3 fl,.dat (W m ao),.dat (~~~t),.own (FL.map ∅),b6]):=by
  have hw:cD (rn (n+129)) [] (k+14) false (.call 26 [(.ix ⇑3 ↥0),⇑4]) [A0,A1,St s2 fl,.dat (W m ao),.dat (~~~t),.own [],a6]=some ((eX m t).map λr=>.tup (r.map ∅),[A0,A1,St s2 fl,.dat (W m ao),.dat (~~~t),.own [],a6]):=by simp! [U,cD,i0,c26,aE (fx:=VD) rfl,VG]
  simp only[aK,Tg.ix,Tg.eT,hw,lp];simp
 have so:=fH FL (λx hx=>by
  obtain⟨a,b,rfl,_⟩:=Ow.tie x ((bV (O:=dR) FL).mem_iff.mpr hx);simp) ⋯
 have r1:=λn k=>PB U F.pr (n:=n) (k:=k) m ao t hm h ht tk (F.kd m ⟨hm.1,by lia⟩)
 have r2:=λn k=>PB U F.pr (n:=n) (k:=k) m _ t hm Ow ht tk (F.kd m ⟨hm.1,by lia⟩)
 have e6:∃b5,aK (rn (n+129)) [] (k+14) (.ite (.or [(.not (.call 46 [⇑3,⇑4])),(.not (.call 46 [(.tup [(.ix ⇑3 ↥0),(.blt .tuple [(.blt .sorted [⇑5])])]),⇑4]))]) (~~~4) []) [A0,A1,St s3 fl,.dat (W m ao),.dat (~~~t),.own (FL.map ∅),b6]=some (.nx,[A0,A1,St s3 fl,.dat (W m ao),.dat (~~~t),b5,b6]):=by
  have hW:D.tup [.int m,.tup ((cS dR FL).map ∅)]=W m (cS dR FL):=rfl
  refine⟨.own (FL.map ∅),?_⟩
  generalize cS dR FL=S at so r2 hW;simp! [U,c46,aE (fx:=Y3) rfl,r1,r2,i0,so,hW,au 2 ⋯]
 obtain⟨b5,e6⟩:=e6;refine⟨St s3 fl,.dat (W m ao),.dat (~~~t),b5,b6,?_⟩;unfold Ai Px;dsimp only;unfold xu at e5;rw[U.b];refine (aB (g1:=[A0,A1,St s fl,a3,a4,a5,a6]) ?_).trans ?_
 . subst YX NZ;simp! [U,c39,aE (fx:=pY 38) rfl,q1]
 refine (aB (g1:=[A0,A1,St s1 fl,.dat (W m ao),a4,a5,a6]) ?_).trans ?_
 . simp! [U,c43,FJ]
 refine (aB (g1:=[A0,A1,St s2 fl,.dat (W m ao),.dat (~~~t),a5,a6]) ?_).trans ?_
 . simp! [U,c44,i0,RD]
 refine (aB (g1:=[A0,A1,St s2 fl,.dat (W m ao),.dat (~~~t),.own [],a6]) ?_).trans ?_
 . simp! [U,au 0 ⋯]
 rw[aB e5];rw[aB e6];rfl
theorem Y5(ns: ~~~0):aK (rn (n+130)) [] (k+14) (.ite (.cmp .NotEq (.comp 7 2 (.nm 8) (.cL ↥1 ↥10) (some (.not (.call 45 [⇑8]))) ⇑8) (.lst [])) (~~~4) []) [.dat (.fix (ns.map .int)),.no,.no,.no,.no,.no,.no]=some (.nx,[.dat (.fix (ns.map .int)),.no,.no,.no,.no,.no,.no]):=by
 have w:=rM (rn:=rn (n+128)) (bor:=[]) (k:=k+14) (g:=[.dat (.fix (ns.map .int)),.no,.no,.no,.no,.no,.no]) (g1:=[.dat (.fix (ns.map .int)),.no,.no,.no,.no,.no,.no]) (kk:=2) (nn:=7) (j:=8) (it:=.cL ↥1 ↥10) (c:=some (.not (.call 45 [⇑8]))) (e:=.slot 8) (List.range 9) (λ(i:Nat)=>D.int (1+(i:Int))) (λ_=>false) (λ(i:Nat)=>D.int (1+(i:Int))) (by
  have e:((10:Int) - 1).toNat=9:=rfl;simp! [U,cD,aD 1 ⋯,aD 10 ⋯,bK,e]) rfl ⋯ ⋯ ⋯ (au _ ⋯) (λi hi G' hG=>by
  rw[mI]at hi;obtain⟨j,hj⟩:∃j:Nat,(j:Int)=1+(i:Int):=⟨1+i,by lia⟩
  have h8:=hG.2;rw[<- hj]at h8;have q:=Y4 U F.pr (n:=n+5) (k:=k) j ⋯ (F.kd j ⋯) (F.nr j ⋯) (F.ak j ⋯);simp! [U,mR,h8,c45,aJ (fx:=Y0) rfl,q]) (λi hi hf=>by cases hf)
 rw[AU.mpr (λ_ _=>by decide),List.map_nil]at w
 simp! [U,w,fT,kr,iZ,fS,dep,deps,cP,dB]
theorem whole(ns: ~~~0)(hl:ns.length<=63):∃g',(rn (n+131)).b [] (k+14) Px.body [.dat (.fix (ns.map .int)),.no,.no,.no,.no,.no,.no]=some (.rt (.dat (.bl true)),g'):=by
 have loop:=cQ (T:=.nm 1) (b:=(rn (n+130)).b [] (k+14) Ai) (λ(j:Nat)=>D.int (0+(j:Int)))
  (I:=λ(l:List Nat) g=>∃(s1 s2 s3 s4 s5 s6:Slot),g=[.dat (.fix (ns.map .int)),s1,s2,s3,s4,s5,s6])
  (step:=λa l g h=>by
   obtain⟨s1,s2,s3,s4,s5,s6,rfl⟩:=h;rw[CD];obtain⟨b2,b3,b4,b5,b6,q⟩:=cell U F ns hl a s2 s3 s4 s5 s6;exact⟨_,_,rfl,q,_,_,_,_,_,_,rfl⟩)
 obtain⟨M,hM,hM2⟩:∃M:Nat,M<=4/\(if ((if (4:Int)<ns.length then 4 else (ns.length:Int))) > 1 then (if (4:Int)<ns.length then 4 else (ns.length:Int))else 1)=(M:Int):=by
  refine⟨(if ((if (4:Int)<ns.length then 4 else (ns.length:Int))) > 1 then (if (4:Int)<ns.length then 4 else (ns.length:Int))else 1).toNat,?_,?_⟩
  . split <;> (try split) <;> lia
  . split <;> (try split) <;> lia
 obtain⟨g2,⟨s1,s2,s3,s4,s5,s6,rfl⟩,h4⟩:=loop (List.range M) [.dat (.fix (ns.map .int)),.no,.no,.no,.no,.no,.no] ⟨_,_,_,_,_,_,rfl⟩;have hv:eE (rn (n+130)) [] (k+14) (.blt .max [↥1,(.blt .min [(.blt .len [⇑0]),↥4])]) [.dat (.fix (ns.map .int)),.no,.no,.no,.no,.no,.no]=some (.int (M:Int),[.dat (.fix (ns.map .int)),.no,.no,.no,.no,.no,.no]):=by rw[<- hM2];simp! [U,pS]
 have hw:cD (rn (n+130)) [] (k+14) false (.dD (.blt .max [↥1,(.blt .min [(.blt .len [⇑0]),↥4])])) [.dat (.fix (ns.map .int)),.no,.no,.no,.no,.no,.no]=some ((List.range M).map λ(j:Nat)=>D.int (0+(j:Int)),[.dat (.fix (ns.map .int)),.no,.no,.no,.no,.no,.no]):=by unfold cD;dsimp only;rw[hv];dsimp only;rw[fN (aD M ⋯),o6];rfl
 refine⟨[.dat (.fix (ns.map .int)),s1,s2,s3,s4,s5,s6],?_⟩;have hb:Px.body=[(.ite (.cmp .NotEq (.comp 7 2 (.nm 8) (.cL ↥1 ↥10) (some (.not (.call 45 [⇑8]))) ⇑8) (.lst [])) (~~~4) []),(.loop (.nm 1) (.dD (.blt .max [↥1,(.blt .min [(.blt .len [⇑0]),↥4])])) Ai),(.ret (.val (.bl true)))]:=rfl;rw[hb];rw[U.b];rw[aB (Y5 U F ns)];refine (aB (g1:=[.dat (.fix (ns.map .int)),s1,s2,s3,s4,s5,s6]) ?_).trans ?_
 . simp only[aK,Tg.ix,Tg.eT,hw,h4];simp
 simp! [U,U.e]
end
end bJ
namespace bJ
open Ev
def VH(ps: ~~~5)(r:Option R):Bool:=match r with |some (.new l)=>(match g9 l with |some ts=>decide (ts=ps) |none=>false) |_=>false
theorem uI{ps: ~~~5}{r:Option R}(h:VH ps r=true):r=some (.new (ps.map ∅)):=by
 unfold VH at h;left
 .
  left
  . rename_i l ts e;rw[wU e,l9 h]
  . symm
 . symm
theorem UW{j:Nat}(h:1<=j/\j<=9):j∈[1,2,3,4,5,6,7,8,9]:=by simp only[d6,kS,yB];lia
def akB(j:Nat):Bool:=VH (kinds j) (aQ (run fns (5+117)) (0+12) x7 [.int j])&&VH (kinds j) (aQ (run fns (5+113)) (0+11) x7 [.int j])&&VH (kinds j) (aQ (run fns (5+116)) (0+11) x7 [.int j])&&VH (kinds j) (aQ (run fns (5+114)) (0+11) x7 [.int j])
theorem Y6:([1,2,3,4,5,6,7,8,9].all akB)=true:=by decide +kernel
theorem U0:([1,2,3,4,5,6,7,8,9].all nrB)=true:=by decide +kernel
noncomputable def prB(m:Nat)(x: ~~~0):Bool:=match x with | [a,b]=>decide (0<=a/\a<m/\0<=b/\b<m) |_=>false
theorem U1:([1,2,3,4,5,6,7,8,9].all λj=>(prs j).all (prB j)&&decide ((prs j).Nodup)&&decide ((prs j).length<=36))=true:=by decide +kernel
theorem Y7(j:Nat)(h:1<=j/\j<=9):(∀p∈prs j,∃a b:Int,p=[a,b]/\0<=a/\a<j/\0<=b/\b<j)/\(prs j).Nodup/\(prs j).length<=36:=by
 have:=eM.mp U1 j (UW h);simp only[dE,dL,eM]at this;refine⟨λp hp=>?_,this.1.2,this.2⟩
 have q:=this.1.1 p hp;unfold prB at q;split at q
 . rename_i a b;have q:=l9 q;exact⟨a,b,rfl,q.1,q.2.1,q.2.2.1,q.2.2.2⟩
 . cases q
theorem Aj{α:Type}{p:α->Bool}(l:List α)(n:Nat)(h1:(l.take n).all p=true)(h2:(l.drop n).all p=true):l.all p=true:=by rw[<- A7 n l,List.all_append,h1,h2];rfl
theorem kd1:([1,2,3,4,5,6].all λj=>(kinds j).all (Pu j))=true:=by decide +kernel
theorem kd7:(kinds 7).all (Pu 7)=true:=by decide +kernel
theorem kd8a:((kinds 8).take 11).all (Pu 8)=true:=by decide +kernel
theorem kd8b:((kinds 8).drop 11).all (Pu 8)=true:=by decide +kernel
theorem kd9a:((kinds 9).take 15).all (Pu 9)=true:=by decide +kernel
theorem kd9b:((kinds 9).drop 15).all (Pu 9)=true:=by decide +kernel
theorem kd(j:Nat)(h:1<=j/\j<=9)(t: ~~~0)(ht:t∈kinds j):Kd j t:=by
 refine Kd.of h ht ?_;by_cases h7:j=7
 . subst h7;exact eM.mp kd7 t ht
 by_cases h8:j=8
 . subst h8;exact eM.mp (Aj _ 11 kd8a kd8b) t ht
 by_cases h9:j=9
 . subst h9;exact eM.mp (Aj _ 15 kd9a kd9b) t ht
 exact eM.mp (eM.mp kd1 j (by simp only[d6,kS,yB];lia)) t ht
theorem t1:([1,2,3,4].all λm=>(turnsOf m).all (qo m))=true:=by decide +kernel
theorem t5_0:(((turnsOf 5).drop (60 * 0)).take 60).all (qo 5)=true:=by decide +kernel
theorem t5_1:(((turnsOf 5).drop (60 * 1)).take 60).all (qo 5)=true:=by decide +kernel
theorem t6_0:(((turnsOf 6).drop (60 * 0)).take 60).all (qo 6)=true:=by decide +kernel
theorem t6_1:(((turnsOf 6).drop (60 * 1)).take 60).all (qo 6)=true:=by decide +kernel
theorem t6_2:(((turnsOf 6).drop (60 * 2)).take 60).all (qo 6)=true:=by decide +kernel
theorem t6_3:(((turnsOf 6).drop (60 * 3)).take 60).all (qo 6)=true:=by decide +kernel
theorem t6_4:(((turnsOf 6).drop (60 * 4)).take 60).all (qo 6)=true:=by decide +kernel
theorem t6_5:(((turnsOf 6).drop (60 * 5)).take 60).all (qo 6)=true:=by decide +kernel
theorem t6_6:(((turnsOf 6).drop (60 * 6)).take 60).all (qo 6)=true:=by decide +kernel
theorem t6_7:(((turnsOf 6).drop (60 * 7)).take 60).all (qo 6)=true:=by decide +kernel
theorem t6_8:(((turnsOf 6).drop (60 * 8)).take 60).all (qo 6)=true:=by decide +kernel
theorem t6_9:(((turnsOf 6).drop (60 * 9)).take 60).all (qo 6)=true:=by decide +kernel
theorem Y8:(((turnsOf 6).drop (60 * 10)).take 60).all (qo 6)=true:=by decide +kernel
theorem Y9:(((turnsOf 6).drop (60 * 11)).take 60).all (qo 6)=true:=by decide +kernel
theorem t5:(turnsOf 5).all (qo 5)=true:=zX 60 2 ⋯ (by decide +kernel) λi hi=>by
 match i,hi with
 | 0,_=>exact t5_0
 | 1,_=>exact t5_1
theorem t6:(turnsOf 6).all (qo 6)=true:=zX 60 12 ⋯ (qc ⋯).2 λi hi=>by
 match i,hi with
 | 0,_=>exact t6_0
 | 1,_=>exact t6_1
 | 2,_=>exact t6_2
 | 3,_=>exact t6_3
 | 4,_=>exact t6_4
 | 5,_=>exact t6_5
 | 6,_=>exact t6_6
 | 7,_=>exact t6_7
 | 8,_=>exact t6_8
 | 9,_=>exact t6_9
 | 10,_=>exact Y8
 | 11,_=>exact Y9
theorem tk(m:Nat)(hm:1<=m/\m<=6)(t: ~~~0)(ht:Tn m t):qo m t=true:=by
 have h:=ni ht;by_cases h5:m=5
 . subst h5;exact eM.mp t5 t h
 by_cases h6:m=6
 . subst h6;exact eM.mp t6 t h
 exact eM.mp (eM.mp t1 m (by simp only[d6,kS,yB];lia)) t h
theorem U3:Fk (run fns) 0 0:=by
 refine⟨λj h=>?_,kd,λj h=>eM.mp U0 j (UW h),Y7,tk⟩
 have:=eM.mp Y6 j (UW h);unfold akB at this;simp only[dE]at this;exact⟨uI this.1.1.1,uI this.1.1.2,uI this.1.2,uI this.2⟩
def kk:Nat:=14
def fuel:Nat:=131
theorem hev(ns: ~~~0)(hl:ns.length<=63):∃g',(run fns fuel).b [] kk Px.body (gn 7 [.dat (.fix (ns.map .int))])=some (.rt (.dat (.bl true)),g'):=whole (Nb fns) U3 ns hl
end bJ
namespace Ev
open L2
def Za:Value->Bool
 |.str _ _=>true
 |_=>false
def N2:Value->Bool
 |.int _ _=>true
 |_=>false
def PJ:Value->Bool
 |.bool _=>true
 |_=>false
noncomputable def U4(n:String):Value->Bool
 |.type m=>decide (m=n)
 |_=>false
noncomputable def U5(q:Addr):Option Value->Bool
 |some (.ref p)=>decide (p=q)
 |_=>false
theorem Al{n:String}{v:Value}(h:U4 n v=true):v=.type n:=by
 unfold U4 at h;left
 . rw[l9 h]
 . symm
theorem N3{q:Addr}{v:Option Value}(h:U5 q v=true):v=some (.ref q):=by
 unfold U5 at h;left
 . rw[l9 h]
 . symm
def codeOk(K:Frag)(c q:Addr):Bool:=match K.lookup c with
 |some o=>(match o.data with
  |.fields vs=>U4 "code" o.cls&&U5 q vs[11]?&&Za (vs.getD 18 .none)&&N2 (vs.getD 7 .none)&&PJ (vs.getD 9 .none)&&N2 (vs.getD 10 .none)&&decide (c≠q)
  |_=>false)
 |none=>false
theorem Dp{K:Frag}{h:Heap}{c q:Addr}(X:K.In h)(e:codeOk K c q=true):PySem.W.CodeHd h c q/\∃o vs,h.get? c=some o/\o.cls=.type "code" /\o.data=.fields vs/\vs[11]?=some (.ref q):=by
 unfold codeOk at e;split at e
 .
  rename_i o ho;split at e
  .
   rename_i vs hv;simp only[dE,dL]at e;obtain⟨⟨⟨⟨⟨⟨e1,e2⟩,e3⟩,e4⟩,e5⟩,e6⟩,e7⟩:=e;have r:=N3 e2;have d:vs.getD 11 .none=.ref q:=by rw[AA,r];rfl
   unfold Za at e3;split at e3
   .
    rename_i file tf h3;unfold N2 at e4;split at e4
    .
     rename_i fl tg h4;unfold PJ at e5;split at e5
     .
      rename_i b h5;unfold N2 at e6;split at e6
      . rename_i tx tt h6;exact⟨⟨o,vs,file,tf,fl,tg,b,tx,tt,X _ _ ho,Al e1,hv,r,d,h3,h4,h5,h6,e7⟩,o,vs,X _ _ ho,Al e1,hv,r⟩
      . cases e6
     . cases e5
    . cases e4
   . cases e3
  . cases e
 . cases e
theorem xx{q:Addr}{K:Params->Frag}{w:World}{h:Heap}(e:(K w.params).lookup q=none)(qqq:PySem.W.InK (qO q K) w h):(K w.params).In h:=λa o ho=>by
 refine qqq a o ?_;show List.lookup a ((q,_)::K w.params)=_;rw[sT];have:(a==q)=false:=by
  by_cases z:a=q
  . rw[z,e]at ho;cases ho
  . simpa using z
 rw[this];exact ho
theorem Dq{c q:Addr}{K:Params->Frag}{w:World}{h:Heap}(e:(K w.params).lookup q=none)(e2:codeOk (K w.params) c q=true)(qqq:PySem.W.InK (qO q K) w h):∀p∈[q],(∃c,h.TableAt c p #[])/\(K w.params).lookup p=none:=λp hp=>by
 cases eP.mp hp;refine⟨⟨c,(Dp (xx e qqq) e2).2,qqq _ _ ?_⟩,e⟩;show List.lookup q ((q,_)::K w.params)=_;simp
theorem Jo{l:PySem.W.OpenLaw}{n k:Nat}{q:Program}{loose:List Str}{XP:(Str->Option Value)->Heap->Prop}{YP:World->Heap->Prop}{d:DefRec}{K:Params->Frag}{CX:Eo}{sp:Frag->Sp}{x:Str}{T:List Addr}
  (hn:l.most=some n) (hn2:n<=sizeLine) (mj:d.params.defaults=[]) (hr:gj k callerA)
  (hY:∀(w:World) (h:Heap),YP w h->(K w.params).In h) (hT:∀(w:World) (h:Heap),YP w h->∀q∈T,(∃c,h.TableAt c q #[])/\(K w.params).lookup q=none)
  (F:∀(w:World) (mg:Str->Option Value) (fa:Addr) (h:Heap),(K w.params).In h->h.Ns mainGlobals mg->mg d.name=some (.ref fa)->
   ∃fd:FuncData,(∀(s:Shared) (u:Value),BindsTo s fd ⟨[u],[]⟩ [(x,u)])/\
    ∀base:Heap,(K w.params).In base->base.Ns mainGlobals mg->qq l.prog w (K w.params) mg base CX k fa fd [x] (sp (K w.params)))
  (Vd:∀(w:World) (H:Hp) (a:Addr) (ns: ~~~0),ns.length<=n->zL T H->cB (K w.params) H a (ns.map V.int)->sp (K w.params) [.ref a] H (λv _=>v=.bl true) λ_ _ _=>False)
  (hCX:∀(H:Hp) (s:Shared) (e:Value) (s':Shared),CX [] H s (λ_ _ _=>False) e s'->False) :
  PySem.W.WalkO q loose XP YP l.row.toRowW d [] (λf vs=>PySem.call f vs):=by
 refine Att.ve hn mj λw s₀ s₁ mg mb fa o pm cd doc a vs ns G qqq ho hd eF hmg hobj hints aL hg=>?_
 have KX:=hY w _ qqq;obtain⟨fd,hb,hF⟩:=F w mg fa _ KX G.T.g hmg;exact Cr KX (hT w _ qqq) G.T.g G.T.b G.T.builtins G.T.nolimit hg hobj hints (kA aL hn2) hr hF hb (λH hO hS=>Vd w H a ns aL hO hS) λH e s'=>hCX H s₁ e s'
end Ev
namespace bJ
open L2 Ev
def f0:Fi:=bA (st 7)
def f1:Fi:=bA (st 8)
def f2:Fi:=bA (st 9)
def f3:Fi:=bA (st 10)
def f4:Fi:=bA (st 13)
def f5:Fi:=bA (st 14)
def f6:Fi:=bA (st 15)
def f7:Fi:=bA (st 16)
def f8:Fi:=bA (st 17)
def f9:Fi:=bA (st 18)
def f10:Fi:=bA (st 19)
def f11:Fi:=bA (st 22)
def f12:Fi:=bA (st 23)
def f13:Fi:=bA (st 24)
def f14:Fi:=bA (st 25)
def f15:Fi:=bA (st 26)
def f16:Fi:=bA (st 27)
def f17:Fi:=bA (st 28)
def f18:Fi:=bA (st 29)
def f19:Fi:=bA (st 30)
def f20:Fi:=bA (st 31)
def f21:Fi:=bA (st 32)
def f22:Fi:=bA (st 33)
def f23:Fi:=bA (st 34)
def f24:Fi:=bA (st 35)
def f25:Fi:=bA (st 36)
def f26:Fi:=bA (st 38)
def f27:Fi:=bA (st 39)
def f28:Fi:=bA (st 40)
def f29:Fi:=bA (st 41)
def f30:Fi:=bA (st 42)
def f31:Fi:=bA (st 43)
def f32:Fi:=bA (st 44)
def f33:Fi:=bA (st 45)
def f34:Fi:=bA (st 46)
def f35:Fi:=bA (st 48)
def f36:Fi:=bA (st 49)
def f37:Fi:=bA (st 50)
def f38:Fi:=bA (st 52)
def f39:Fi:=bA (st 53)
def f40:Fi:=bA (st 54)
def f41:Fi:=bA (st 55)
def f42:Fi:=bA (st 56)
def f43:Fi:=bA (st 57)
def f44:Fi:=bA (st 58)
def f45:Fi:=bA (st 59)
def f46:Fi:=bA (st 60)
def VJ:Fi:=bA (st 61)
def ups:List (Str×List (Addr×Bool)):=[]
noncomputable def P:Pg:=⟨[f0,f1,f2,f3,f4,f5,f6,f7,f8,f9,f10,f11,f12,f13,f14,f15,f16,f17,f18,f19,f20,f21,f22,f23,f24,f25,f26,f27,f28,f29,f30,f31,f32,f33,f34,f35,f36,f37,f38,f39,f40,f41,f42,f43,f44,f45,f46,VJ],[("MOST_NAMES",.int 9),("MOST_PLACES",.int 6)],["all", "bool", "enumerate", "int", "isinstance", "len", "list", "max", "min", "range", "sorted", "sum", "tuple", "zip"],[],false,[], "KindError",ups⟩
theorem U6:HD P P.fn fns=true:=by decide +kernel
theorem fns_eq:List.zipWith (zU P) P.fn fns=P.fn.map (λfi=>cA fi.st):=by kernel_rfl
theorem nLaw:VJ.N.length=7:=rfl
theorem hevF:∀ns:List Int,ns.length<=63->∃g',(run fns fuel).b [] kk Px.body (gn VJ.N.length [.dat (.fix (ns.map .int))])=some (.rt (.dat (.bl true)),g'):=by rw[nLaw];exact hev
theorem N4(P:Params):gk (K P)=[(nat_lit 362,Sz)]:=by kernel_rfl
theorem Jp(P:Params):(K P).lookup (nat_lit 362)=none:=by kernel_rfl
theorem N5(P:Params):codeOk (K P) (nat_lit 364) (nat_lit 362)=true:=by kernel_rfl
end bJ
open PySem PySem.W PyProof.Rows
set_option maxHeartbeats 0 in
theorem PySem.Challenge.cw_websbykind_k13_whole_kinds_counted_holds : PySem.Challenge.rw_websbykind_k13_whole_kinds_counted.Holds := by
 w_on
 refine PySem.W.holds_law (by decide +kernel) λsaid=>?_
 refine PySem.W.holds_open (q:=bJ.qv) (loose:=[]) (Xt:=λs=>xlAt bJ.qv [] s&&recOk (OpenRow.toRowW PySem.Challenge.rw_websbykind_k13_whole_kinds_counted.row).records s) (XP:=XL bJ.qv []) (Yf:=λs=>bJ.as2.map s.heap.get?) (Ya:=λw=>(Ev.qO 362 bJ.K w.params).map λp:Nat×Obj=>some p.2) (YP:=InK (Ev.qO 362 bJ.K)) (N:=8000) bJ.hl (InK.of bJ.VM) InK.keeps (λs e=>xl_of s (Bool.and_eq_true_iff.mp e).1) XL.keeps (by rfl) (by rfl) (by rfl) (λs e=>recFacts_of (Bool.and_eq_true_iff.mp e).2) (by rfl) (by first |assumption |decide +kernel) (by decide +kernel) ⟨rfl,rfl,rfl,rfl,rfl,by decide +kernel⟩ ?hw ?hc
 (case hw=>w_witness2)
 k_fill
 refine Ev.Jo (l:=PySem.Challenge.rw_websbykind_k13_whole_kinds_counted) (n:=63) (k:=bJ.kk+1) (x:= "_law_script") (CX:=L2.Jr) (K:=bJ.K) (T:=[362]) (sp:=λK=>Ev.RJ K bJ.VJ.N 1 λbor g r g'=>(Ev.run bJ.fns bJ.fuel).b bor bJ.kk bJ.Px.body g=some (.rt r,g')) rfl ⋯ rfl ⟨rfl,by decide,by decide⟩ (λw h qqq=>Ev.xx (bJ.Jp _) qqq) (λw h qqq=>Ev.Dq (bJ.Jp _) (bJ.N5 _) qqq) ?F ?S ?C
 case F=>
  intro w mg fa h KX G hmg
  have mm:Ev.bu (L2.KOf KX) mg bJ.f0/\Ev.bu (L2.KOf KX) mg bJ.f1/\Ev.bu (L2.KOf KX) mg bJ.f2/\Ev.bu (L2.KOf KX) mg bJ.f3/\Ev.bu (L2.KOf KX) mg bJ.f4/\Ev.bu (L2.KOf KX) mg bJ.f5/\Ev.bu (L2.KOf KX) mg bJ.f6/\Ev.bu (L2.KOf KX) mg bJ.f7/\Ev.bu (L2.KOf KX) mg bJ.f8/\Ev.bu (L2.KOf KX) mg bJ.f9/\Ev.bu (L2.KOf KX) mg bJ.f10/\Ev.bu (L2.KOf KX) mg bJ.f11/\Ev.bu (L2.KOf KX) mg bJ.f12/\Ev.bu (L2.KOf KX) mg bJ.f13/\Ev.bu (L2.KOf KX) mg bJ.f14/\Ev.bu (L2.KOf KX) mg bJ.f15/\Ev.bu (L2.KOf KX) mg bJ.f16/\Ev.bu (L2.KOf KX) mg bJ.f17/\Ev.bu (L2.KOf KX) mg bJ.f18/\Ev.bu (L2.KOf KX) mg bJ.f19/\Ev.bu (L2.KOf KX) mg bJ.f20/\Ev.bu (L2.KOf KX) mg bJ.f21/\Ev.bu (L2.KOf KX) mg bJ.f22/\Ev.bu (L2.KOf KX) mg bJ.f23/\Ev.bu (L2.KOf KX) mg bJ.f24/\Ev.bu (L2.KOf KX) mg bJ.f25/\Ev.bu (L2.KOf KX) mg bJ.f26/\Ev.bu (L2.KOf KX) mg bJ.f27/\Ev.bu (L2.KOf KX) mg bJ.f28/\Ev.bu (L2.KOf KX) mg bJ.f29/\Ev.bu (L2.KOf KX) mg bJ.f30/\Ev.bu (L2.KOf KX) mg bJ.f31/\Ev.bu (L2.KOf KX) mg bJ.f32/\Ev.bu (L2.KOf KX) mg bJ.f33/\Ev.bu (L2.KOf KX) mg bJ.f34/\Ev.bu (L2.KOf KX) mg bJ.f35/\Ev.bu (L2.KOf KX) mg bJ.f36/\Ev.bu (L2.KOf KX) mg bJ.f37/\Ev.bu (L2.KOf KX) mg bJ.f38/\Ev.bu (L2.KOf KX) mg bJ.f39/\Ev.bu (L2.KOf KX) mg bJ.f40/\Ev.bu (L2.KOf KX) mg bJ.f41/\Ev.bu (L2.KOf KX) mg bJ.f42/\Ev.bu (L2.KOf KX) mg bJ.f43/\Ev.bu (L2.KOf KX) mg bJ.f44/\Ev.bu (L2.KOf KX) mg bJ.f45/\Ev.bu (L2.KOf KX) mg bJ.f46/\Ev.bu (L2.KOf KX) mg bJ.VJ:=by
   refine⟨?_,?_,?_,?_,?_,?_,?_,?_,?_,?_,?_,?_,?_,?_,?_,?_,?_,?_,?_,?_,?_,?_,?_,?_,?_,?_,?_,?_,?_,?_,?_,?_,?_,?_,?_,?_,?_,?_,?_,?_,?_,?_,?_,?_,?_,?_,?_,?_⟩ <;> (
    dsimp only[L2.KOf]
    exact Ev.Yv (by assumption) (by assumption) (by k_is) (by k_is) (by k_is) (by k_is) ⟨rfl,rfl,rfl,by decide +kernel,by decide +kernel,by decide +kernel,by decide +kernel⟩ (λ_ _ _ _ _ _ us hl=>by first | (obtain⟨_,e⟩:=Ev.Yw hl;subst e;rfl) | (obtain⟨_,_,e⟩:=Ev.Yx hl;subst e;rfl) | (obtain⟨_,_,_,e⟩:=Ev.len3 hl;subst e;rfl) | (obtain⟨_,_,_,_,e⟩:=Ev.len4 hl;subst e;rfl)) ⋯)
  obtain⟨m0,m1,m2,m3,m4,m5,m6,m7,m8,m9,m10,m11,m12,m13,m14,m15,m16,m17,m18,m19,m20,m21,m22,m23,m24,m25,m26,m27,m28,m29,m30,m31,m32,m33,m34,m35,m36,m37,m38,m39,m40,m41,m42,m43,m44,m45,m46,m47⟩:=mm
  have uJ:Ev.MF (L2.KOf KX) mg ("MOST_NAMES",.int 9):=by
   dsimp only[L2.KOf]
   refine' Ev.Hz KX G ?a ⋯
   (case a=>k_is)
  have qN:Ev.MF (L2.KOf KX) mg ("MOST_PLACES",.int 6):=by
   dsimp only[L2.KOf]
   refine' Ev.Hz KX G ?a ⋯
   (case a=>k_is)
  have Zb:mg "all"=none:=mg_none_of KX G (by k_is)
  have U7:mg "bool"=none:=mg_none_of KX G (by k_is)
  have xA:mg "enumerate"=none:=mg_none_of KX G (by k_is)
  have Zc:mg "int"=none:=mg_none_of KX G (by k_is)
  have uK:mg "isinstance"=none:=mg_none_of KX G (by k_is)
  have Zd:mg "len"=none:=mg_none_of KX G (by k_is)
  have U8:mg "list"=none:=mg_none_of KX G (by k_is)
  have Ze:mg "max"=none:=mg_none_of KX G (by k_is)
  have Zf:mg "min"=none:=mg_none_of KX G (by k_is)
  have N6:mg "range"=none:=mg_none_of KX G (by k_is)
  have Jq:mg "sorted"=none:=mg_none_of KX G (by k_is)
  have Zg:mg "sum"=none:=mg_none_of KX G (by k_is)
  have N7:mg "tuple"=none:=mg_none_of KX G (by k_is)
  have Zh:mg "zip"=none:=mg_none_of KX G (by k_is)
  have lm:Ev.TL bJ.P (L2.KOf KX) mg:=Ev.MJ rfl rfl rfl
  have md:Ev.CJ bJ.P (L2.KOf KX) mg:=Ev.Yu (.cons m0 (.cons m1 (.cons m2 (.cons m3 (.cons m4 (.cons m5 (.cons m6 (.cons m7 (.cons m8 (.cons m9 (.cons m10 (.cons m11 (.cons m12 (.cons m13 (.cons m14 (.cons m15 (.cons m16 (.cons m17 (.cons m18 (.cons m19 (.cons m20 (.cons m21 (.cons m22 (.cons m23 (.cons m24 (.cons m25 (.cons m26 (.cons m27 (.cons m28 (.cons m29 (.cons m30 (.cons m31 (.cons m32 (.cons m33 (.cons m34 (.cons m35 (.cons m36 (.cons m37 (.cons m38 (.cons m39 (.cons m40 (.cons m41 (.cons m42 (.cons m43 (.cons m44 (.cons m45 (.cons m46 (.cons m47 .nil)))))))))))))))))))))))))))))))))))))))))))))))) (.cons uJ (.cons qN .nil)) (.cons Zb (.cons U7 (.cons xA (.cons Zc (.cons uK (.cons Zd (.cons U8 (.cons Ze (.cons Zf (.cons N6 (.cons Jq (.cons Zg (.cons N7 (.cons Zh .nil)))))))))))))) .nil lm
  exact Ev.HB (Ev.TY bJ.U6 bJ.fns_eq) md (i:=47) (fi:=bJ.VJ) rfl rfl rfl m47 hmg
 case S=>exact λw H a ns hl hO hS=>Ev.TV bJ.hevF (bJ.K w.params) H a ns hl (by rw[bJ.N4];exact hO) hS
 case C=>exact λ_ _ _ _ z=>z
