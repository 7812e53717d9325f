import PyProof.Rows.All
import Wide.All
import OpenK.AllK
import Wide.FinOn
import Lean
import PyProof.EqAt
import PyProof.EqKinds
import PyProof.TupleCall
import PySem.Challenge.RW_websbykind_k80_opposites
set_option Elab.async false
set_option linter.all false
set_option compiler.extract_closed false
set_option bootstrap.genMatcherCode false
set_option genSizeOf false
set_option maxHeartbeats 4000000
set_option maxRecDepth 100000
set_option autoImplicit true
open PySem PySem.Spec PyProof.Rows
open PySem.W (Frag)
noncomputable section
local macro_rules | `(⋯)=>`(by first |decide |lia |simp)
local macro_rules | `($x⁻¹)=>`(($x).heap.objs.size)
abbrev aS:=@PySem.wpAny_bind
abbrev a9:=@List.mem_cons_of_mem
abbrev bP:=@PySem.Heap.get?_push_of_some
abbrev b0:=@List.getElem?_eq_some_iff
abbrev dA:=@List.mem_cons_self
abbrev dC:=@List.size_toArray
abbrev dE:=@PySem.wpAny_pure
abbrev dL:=@List.getElem?_append_left
abbrev dS:=@Nat.le_refl
abbrev d6:=@List.mem_cons
abbrev eA:=@List.getElem?_append_right
abbrev eC:=@Bool.and_eq_true
abbrev eD:=@Nat.lt_of_lt_of_le
abbrev eJ:=@PySem.Heap.get?_push_size
abbrev eM:=@List.getElem?_set_ne
abbrev eP:=@PySem.Heap.lt_size
abbrev eQ:=@Option.bind_eq_some_iff
abbrev eR:=@List.length_append
abbrev fA:=@List.mem_singleton
abbrev fI:=@List.getElem?_set_self
abbrev fN:=@if_pos
abbrev fR:=@List.length_map
abbrev gL:=@List.length_replicate
abbrev gN:=@if_neg
abbrev hU:=@decide_eq_true_eq
abbrev hV:=@List.nodup_cons
abbrev hZ:=@List.all_eq_true
abbrev i5:=@Nat.le_trans
abbrev i6:=@List.mem_append_right
abbrev i7:=@List.mem_map
abbrev i8:=@List.mem_filter
abbrev i9:=@PySem.Heap.get?_update_other
abbrev kA:=@Nat.add_sub_cancel_left
abbrev kS:=@List.mem_of_getElem?
abbrev lL:=@Bool.false_ne_true
abbrev lS:=@of_decide_eq_true
abbrev l4:=@Nat.ne_of_lt
abbrev l5:=@PySem.wpAny_mono
abbrev l6:=@List.length_cons
abbrev l7:=@List.getElem?_eq_none_iff
abbrev l8:=@List.filterMap_cons
abbrev l9:=@List.getD_eq_getElem?_getD
abbrev mB:=@List.append_nil
abbrev mE:=@PyProof.Rows.callWith_type1
abbrev mI:=@PySem.wpAny_field
abbrev mM:=@PySem.wpAny_holding
abbrev mP:=@Ne.symm
abbrev nE:=@Array.length_toList
abbrev nK:=@PySem.sizeLine_eq
abbrev nN:=@List.not_mem_nil
abbrev nS:=@PySem.wpAny_truthy_bool
abbrev nV:=@PyProof.Rows.slot_tuple_getitem
abbrev n0:=@PySem.wpAny_newObj_type
abbrev oC:=@List.getElem?_eq_getElem
abbrev oD:=@Nat.lt_irrefl
abbrev oI:=@List.replicate_succ
abbrev oP:=@List.getElem?_map
abbrev oQ:=@Option.some.inj
abbrev oS:=@PySem.Heap.get?_update_self
abbrev o0:=@List.lookup_cons
abbrev o6:=@PySem.wpAny_callSpecial?_slot
abbrev pE:=@Int.toNat_natCast
abbrev pV:=@List.length_set
abbrev qS:=@List.nodup_nil
abbrev rV:=@Nat.le_add_right
abbrev sB:=@List.mem_map_of_mem
abbrev sK:=@List.map_congr_left
abbrev sR:=@List.set_append_right
abbrev sT:=@List.mem_range
abbrev tJ:=@PySem.wpAny_Call_Name_kw
abbrev tP:=@List.map_append
abbrev tS:=@PySem.wpAny_call_entry
abbrev t6:=@Nat.lt_or_ge
abbrev t7:=@decide_eq_false
abbrev t8:=@List.length_singleton
abbrev t9:=@PySem.W.kia_one
abbrev u4:=@PySem.Obj.isFreed_of_fields
abbrev u7:=@List.length_filter_le
abbrev u8:=@List.getElem?_take_of_lt
abbrev vS:=@List.mem_replicate
abbrev v6:=@PySem.Obj.data_mapFields
abbrev wE:=@List.length_take
abbrev wP:=@List.range_eq_range'
abbrev wS:=@if_true
abbrev wT:=@PySem.F.plainAttrs_list
abbrev xI:=@decide_eq_true
abbrev xL:=@PySem.Heap.size_push
abbrev x0:=@List.Perm.refl
abbrev x5:=@List.flatten_cons
abbrev yA:=@Array.getD_eq_getD_getElem?
abbrev yB:=@Array.getElem?_eq_some_iff
abbrev yY:=@PySem.F.slot_tuple_iterator_next
abbrev y0:=@Nat.lt_succ_self
abbrev y6:=@Nat.ne_of_gt
abbrev y7:=@List.pairwise_cons
abbrev y8:=@PySem.wpAny_setField_rec
abbrev An:=@Nat.sub_eq_zero_of_le
abbrev Ap:=@Nat.zero_le
abbrev At:=@PySem.wpAny_seqItems
abbrev AA:=@List.mem_append_left
abbrev AB:=@List.mem_append
abbrev AC:=@PySem.wpAny_passesOwn
abbrev AD:=@List.nil_append
abbrev AE:=@List.Sublist.refl
abbrev AF:=@Bool.or_eq_true
abbrev AG:=@PySem.wpAny_standAt
abbrev AH:=@PySem.mem_of_lookup
abbrev AI:=@List.getElem?_replicate
abbrev AJ:=@List.range'_succ
abbrev AK:=@Nat.lt_of_succ_lt_succ
abbrev AL:=@PySem.wpAny_pyIter_tuple
abbrev AM:=@PySem.W.callWith_K
abbrev AN:=@Bool.false_eq_true
abbrev AO:=@List.length_nil
abbrev AQ:=@Nat.le_succ
abbrev AR:=@List.getElem?_eq_none
abbrev AS:=@List.contains_iff_mem
abbrev AT:=@List.append_assoc
abbrev AU:=@List.flatMap_cons
abbrev AV:=@Array.perm_iff_toList_perm
abbrev AW:=@List.nodup_iff_pairwise_ne
abbrev AX:=@PySem.wpAny_setField
abbrev AY:=@PySem.wpAny_execs_cons
abbrev AZ:=@List.drop_length
abbrev A4:=@PySem.Heap.size_update
abbrev A5:=@or_false
abbrev A6:=@List.filter_cons
abbrev A7:=@PySem.codeAny_mono
abbrev A8:=@PySem.F.args_tuple_add_2
abbrev A9:=@PySem.F.slot_list_append
abbrev Bi:=@PySem.F.type_list_append
abbrev Bz:=@Nat.zero_add
abbrev BA:=@Nat.sub_self
abbrev BB:=@PySem.AutoSeq1.wpAny_loadPart'
abbrev BC:=@List.mem_filterMap
abbrev BD:=@List.zip_cons_cons
abbrev BE:=@PySem.F.entry_tuple_add
abbrev BF:=@Option.map_some
abbrev BH:=@Nat.not_lt_zero
abbrev BI:=@Bool.eq_iff_iff
abbrev BM:=@Array.Perm.refl
abbrev BN:=@Int.emod_lt_of_pos
abbrev BO:=@PySem.W.cellsFrom_some
abbrev BQ:=@PySem.F.slot_tuple_add
abbrev BS:=@Nat.le_of_succ_le_succ
abbrev BU:=@PySem.W.kitx_list
abbrev BY:=@List.nodup_append
abbrev B0:=@Array.getElem?_toList
abbrev B1:=@Nat.succ.inj
abbrev B2:=@beq_self_eq_true
abbrev B3:=@Nat.not_succ_le_zero
abbrev B5:=@List.set_append_left
abbrev B6:=@PySem.wpAny_newList
abbrev B8:=@PySem.wpAny_onRaise
abbrev B9:=@PySem.W.mg_of
abbrev Cf:=@List.of_mem_zip
abbrev Co:=@List.getElem?_range
abbrev CA:=@Int.emod_nonneg
abbrev CB:=@List.flatten_append
abbrev CC:=@Nat.le_of_lt
abbrev CD:=@if_false
abbrev CF:=@PySem.wpAny_typeOf
abbrev CH:=@Nat.succ_mul
abbrev CI:=@Int.zero_add
abbrev CL:=@PySem.wpAny_Name
abbrev CM:=@PySem.wpAny_call
abbrev CO:=@PySem.wpAny_rule
theorem nt{p:Prop}(h:false=true):p:=Bool.noConfusion h
namespace L2
def iP(s:Stmt):Arguments:=match s with
 |.FunctionDef _ a _ _ _ _ _ _ _ _=>a
 |_=>{ posonlyargs:=[],args:=[],vararg:=none,kwonlyargs:=[],kw_defaults:=[],kwarg:=none,defaults:=[]}
def bA(s:Stmt):List Stmt:=match s with
 |.FunctionDef _ _ b _ _ _ _ _ _ _=>b
 |_=>[]
def aE(s:Stmt):Scope:=match s with
 |.FunctionDef _ _ _ _ _ _ sc _ _ _=>sc
 |_=>{ kind:=.function,names:=[],isGenerator:=false,isCoroutine:=false}
end L2
namespace Ev
open L2
noncomputable def qQ(q:Addr)(K:Params->Frag)(P:Params):Frag:=(q,{ cls:=.none,data:=.fields #[]})::K P
end Ev
namespace L8
open L2 Ev
def st(j:Nat):Stmt:=PySem.Challenge.pw_websbykind_k80_opposites.main.body.getD j (.Pass ⟨0,0,0,0⟩)
noncomputable def de(P:Params)(s:Str)(t:Tok)(v:Value):DictEntry:=⟨PyData.keyHash P s,.str s t,v⟩
noncomputable def co(vs:Array Value):Obj:=⟨.type "code",none,.fields vs,#[]⟩
noncomputable def fo(j:Nat)(n:Str)(kV doc pm:Value)(an:Option Addr)(bD ct:Value):Obj:=⟨.type "function",none,.func (PySem.W.fnOf n n (iP (st j)) (bA (st j)) (aE (st j)) .none kV doc pm an bD ct),#[]⟩
noncomputable def ce(n:Str)(b a s r t u:Nat):Obj:=⟨.type "type",none,.cls ⟨n,[.ref b],[.ref a,.ref b,.type "ValueError",.type "Exception",.type "BaseException",.type "object"],s,n,true,[],[],false,none,false⟩,#[some (.ref r),none,some (.str n t),some (.str n u),some (.builtin "ValueError.__new__"),some (.bool true)]⟩
def cd(n:Str)(t l p r:Nat)(x y z:Value)(u:Nat):Obj:=co #[.str n t,.str n (t+1),.str "/claim/cut.py" (t+2),.int l 0,.int p 0,.int 0 0,.int 0 0,.int 3 0,.ref r,.bool true,.int 181 0,.ref (r+1),.none,x,y,z,.int u 0,.int l 0,.str "/claim/cut.py" (u+1)]
def fq(j:Nat)(n:Str)(m:Value)(c:Addr):Obj:=fo j n .none .none m none (.ref c) .none
def m0:Value:=.str "websbykind.whole" 378
def m1:Value:=.str "websbykind.webs" 396
def m2:Value:=.str "websbykind.alike" 437
def m3:Value:=.str "websbykind.opposites" 460
def m4:Value:=.str "law_websbykind_k80_opposites" 475
def K(P:Params):Frag:=
 (nat_lit 3,⟨.type "dict",none,.dict #[de P "__name__" 165 (.str "law_websbykind_k80_opposites" 475),de P "__doc__" 166 (.none),de P "__package__" 167 (.none),de P "__loader__" 168 (.builtin "__main__.__loader__#opaque"),de P "__spec__" 169 (.none),de P "__annotations__" 170 (.ref 6),de P "__builtins__" 171 (.ref 4),de P "__file__" 173 (.str "/claim/cut.py" 172),de P "__cached__" 174 (.none),de P "KindError" 206 (.ref 24),de P "NoWeb" 222 (.ref 37),de P "NoNumber" 238 (.ref 49),de P "NoTurn" 254 (.ref 61),de P "NoKind" 270 (.ref 73),de P "NoPlace" 286 (.ref 85),de P "NoTie" 302 (.ref 97),de P "NoText" 318 (.ref 109),de P "NoLine" 334 (.ref 121),de P "NoDeed" 350 (.ref 133),de P "TooGreat" 377 (.ref 152),de P "is_whole" 386 (.ref 161),de P "is_within" 395 (.ref 168),de P "MOST_PLACES" 399 (.int 6 398),de P "is_web" 405 (.ref 173),de P "is_tie" 411 (.ref 178),de P "is_rising" 417 (.ref 183),de P "must_be_web" 424 (.ref 190),de P "pairs_of" 430 (.ref 195),de P "tied_places" 436 (.ref 200),de P "first_turn" 447 (.ref 207),de P "turns_to" 453 (.ref 212),de P "fits" 459 (.ref 217),de P "opposite" 467 (.ref 222),de P "opposite_turn" 474 (.ref 229),de P "_law_cell_at" 484 (.ref 236),de P "_law_state" 493 (.ref 243),de P "_law_take" 503 (.ref 250),de P "_law_pairs" 509 (.ref 255),de P "_law_mixed_row" 519 (.ref 262),de P "_law_web" 525 (.ref 267),de P "_law_turn" 536 (.ref 274),de P "_law_turned" 542 (.ref 279),de P "_law_turns" 548 (.ref 284),de P "_law_pair_rounds" 559 (.ref 291),de P "_law_bad_web" 567 (.ref 298),de P "_law_same" 573 (.ref 303),de P "_law_refused" 579 (.ref 308),de P "_law_opposite" 585 (.ref 313),de P "_law_even" 596 (.ref 320),de P "law" 602 (.ref 325)] 50,#[]⟩) ::
 (nat_lit 4,⟨.type "module",(some 0),.plain,#[]⟩) ::
 (nat_lit 24,⟨.type "type",none,.cls ⟨"KindError",[.type "ValueError"],[.ref 24,.type "ValueError",.type "Exception",.type "BaseException",.type "object"],23, "KindError",true,[],[.ref 37,.ref 49,.ref 61,.ref 73,.ref 85,.ref 97,.ref 109,.ref 121,.ref 133,.ref 152],false,none,false⟩,#[some (.ref 15),none,some (.str "KindError" 189),some (.str "KindError" 197),some (.builtin "ValueError.__new__"),some (.bool true)]⟩) ::
 (nat_lit 23,⟨.type "dict",none,.dict #[de P "__module__" 196 (.str "websbykind.errors" 187),de P "__firstlineno__" 200 (.int 2 199),de P "__static_attributes__" 201 (.ref 22),de P "__weakref__" 203 (.ref 25),de P "__doc__" 204 (.none)] 3,#[]⟩) ::
 (nat_lit 37,ce "NoWeb" 24 37 36 28 207 215) ::
 (nat_lit 36,⟨.type "dict",none,.dict #[de P "__module__" 214 (.str "websbykind.errors" 187),de P "__firstlineno__" 218 (.int 4 217),de P "__static_attributes__" 219 (.ref 35),de P "__doc__" 220 (.none)] 2,#[]⟩) ::
 (nat_lit 49,ce "NoNumber" 24 49 48 40 223 231) ::
 (nat_lit 61,ce "NoTurn" 24 61 60 52 239 247) ::
 (nat_lit 73,ce "NoKind" 24 73 72 64 255 263) ::
 (nat_lit 85,ce "NoPlace" 24 85 84 76 271 279) ::
 (nat_lit 97,ce "NoTie" 24 97 96 88 287 295) ::
 (nat_lit 109,ce "NoText" 24 109 108 100 303 311) ::
 (nat_lit 121,ce "NoLine" 24 121 120 112 319 327) ::
 (nat_lit 133,ce "NoDeed" 24 133 132 124 335 343) ::
 (nat_lit 152,ce "TooGreat" 24 152 151 136 351 359) ::
 (nat_lit 160,cd "is_whole" 380 28 1 155 (.ref 157) (.ref 158) (.ref 159) 384) ::
 (nat_lit 161,fq 13 "is_whole" m0 160) ::
 (nat_lit 167,cd "is_within" 387 30 3 162 (.ref 164) (.ref 165) (.ref 166) 393) ::
 (nat_lit 168,fq 14 "is_within" m0 167) ::
 (nat_lit 172,cd "is_web" 400 34 1 169 .none .none (.ref 171) 403) ::
 (nat_lit 173,fq 17 "is_web" m1 172) ::
 (nat_lit 177,cd "is_tie" 406 41 2 174 .none .none (.ref 176) 409) ::
 (nat_lit 178,fq 18 "is_tie" m1 177) ::
 (nat_lit 182,cd "is_rising" 412 45 1 179 .none .none (.ref 181) 415) ::
 (nat_lit 183,fq 19 "is_rising" m1 182) ::
 (nat_lit 189,cd "must_be_web" 418 47 1 184 (.ref 186) (.ref 187) (.ref 188) 422) ::
 (nat_lit 190,fq 20 "must_be_web" m1 189) ::
 (nat_lit 194,cd "pairs_of" 425 50 1 191 .none .none (.ref 193) 428) ::
 (nat_lit 195,fq 21 "pairs_of" m1 194) ::
 (nat_lit 199,cd "tied_places" 431 52 2 196 .none .none (.ref 198) 434) ::
 (nat_lit 200,fq 22 "tied_places" m1 199) ::
 (nat_lit 206,cd "first_turn" 439 59 2 201 (.ref 203) (.ref 204) (.ref 205) 445) ::
 (nat_lit 207,fq 24 "first_turn" m2 206) ::
 (nat_lit 211,cd "turns_to" 448 66 2 208 .none .none (.ref 210) 451) ::
 (nat_lit 212,fq 25 "turns_to" m2 211) ::
 (nat_lit 216,cd "fits" 454 74 3 213 .none .none (.ref 215) 457) ::
 (nat_lit 217,fq 26 "fits" m2 216) ::
 (nat_lit 221,cd "opposite" 462 79 1 218 .none .none (.ref 220) 465) ::
 (nat_lit 222,fq 28 "opposite" m3 221) ::
 (nat_lit 228,cd "opposite_turn" 468 83 1 223 (.ref 225) (.ref 226) (.ref 227) 472) ::
 (nat_lit 229,fq 29 "opposite_turn" m3 228) ::
 (nat_lit 235,cd "_law_cell_at" 477 86 2 230 (.ref 232) (.ref 233) (.ref 234) 482) ::
 (nat_lit 236,fq 31 "_law_cell_at" m4 235) ::
 (nat_lit 242,cd "_law_state" 485 90 2 237 (.ref 239) (.ref 240) (.ref 241) 491) ::
 (nat_lit 243,fq 32 "_law_state" m4 242) ::
 (nat_lit 249,cd "_law_take" 494 95 2 244 (.ref 246) (.ref 247) (.ref 248) 501) ::
 (nat_lit 250,fq 33 "_law_take" m4 249) ::
 (nat_lit 254,cd "_law_pairs" 504 104 1 251 .none .none (.ref 253) 507) ::
 (nat_lit 255,fq 34 "_law_pairs" m4 254) ::
 (nat_lit 261,cd "_law_mixed_row" 510 109 2 256 (.ref 258) (.ref 259) (.ref 260) 517) ::
 (nat_lit 262,fq 35 "_law_mixed_row" m4 261) ::
 (nat_lit 266,cd "_law_web" 520 115 2 263 .none .none (.ref 265) 523) ::
 (nat_lit 267,fq 36 "_law_web" m4 266) ::
 (nat_lit 273,cd "_law_turn" 526 129 2 268 (.ref 270) (.ref 271) (.ref 272) 534) ::
 (nat_lit 274,fq 37 "_law_turn" m4 273) ::
 (nat_lit 278,cd "_law_turned" 537 138 2 275 .none .none (.ref 277) 540) ::
 (nat_lit 279,fq 38 "_law_turned" m4 278) ::
 (nat_lit 283,cd "_law_turns" 543 140 1 280 .none .none (.ref 282) 546) ::
 (nat_lit 284,fq 39 "_law_turns" m4 283) ::
 (nat_lit 290,cd "_law_pair_rounds" 549 148 1 285 (.ref 287) (.ref 288) (.ref 289) 557) ::
 (nat_lit 291,fq 40 "_law_pair_rounds" m4 290) ::
 (nat_lit 297,cd "_law_bad_web" 560 159 1 292 (.ref 294) (.ref 295) (.ref 296) 565) ::
 (nat_lit 298,fq 41 "_law_bad_web" m4 297) ::
 (nat_lit 302,cd "_law_same" 568 164 2 299 .none .none (.ref 301) 571) ::
 (nat_lit 303,fq 42 "_law_same" m4 302) ::
 (nat_lit 307,cd "_law_refused" 574 172 1 304 .none .none (.ref 306) 577) ::
 (nat_lit 308,fq 43 "_law_refused" m4 307) ::
 (nat_lit 312,cd "_law_opposite" 580 186 1 309 .none .none (.ref 311) 583) ::
 (nat_lit 313,fq 44 "_law_opposite" m4 312) ::
 (nat_lit 319,cd "_law_even" 586 188 1 314 (.ref 316) (.ref 317) (.ref 318) 594) ::
 (nat_lit 320,fq 45 "_law_even" m4 319) ::
 (nat_lit 324,cd "law" 597 195 1 321 .none .none (.ref 323) 600) ::
 (nat_lit 325,fq 46 "law" m4 324)::[]
noncomputable def as:List Addr:=nat_lit 3::nat_lit 4::nat_lit 24::nat_lit 23::nat_lit 37::nat_lit 36::nat_lit 49::nat_lit 61::nat_lit 73::nat_lit 85::nat_lit 97::nat_lit 109::nat_lit 121::nat_lit 133::nat_lit 152::nat_lit 160::nat_lit 161::nat_lit 167::nat_lit 168::nat_lit 172::nat_lit 173::nat_lit 177::nat_lit 178::nat_lit 182::nat_lit 183::nat_lit 189::nat_lit 190::nat_lit 194::nat_lit 195::nat_lit 199::nat_lit 200::nat_lit 206::nat_lit 207::nat_lit 211::nat_lit 212::nat_lit 216::nat_lit 217::nat_lit 221::nat_lit 222::nat_lit 228::nat_lit 229::nat_lit 235::nat_lit 236::nat_lit 242::nat_lit 243::nat_lit 249::nat_lit 250::nat_lit 254::nat_lit 255::nat_lit 261::nat_lit 262::nat_lit 266::nat_lit 267::nat_lit 273::nat_lit 274::nat_lit 278::nat_lit 279::nat_lit 283::nat_lit 284::nat_lit 290::nat_lit 291::nat_lit 297::nat_lit 298::nat_lit 302::nat_lit 303::nat_lit 307::nat_lit 308::nat_lit 312::nat_lit 313::nat_lit 319::nat_lit 320::nat_lit 324::nat_lit 325::[]
def as2:List Addr:=nat_lit 322::as
noncomputable def qv:Program:={ PySem.Challenge.pw_websbykind_k80_opposites with main:={ PySem.Challenge.pw_websbykind_k80_opposites.main with body:=[st 1,st 2,st 3,st 4,st 5,st 6,st 7,st 8,st 9,st 10,st 11,st 13,st 14,st 16,st 17,st 18,st 19,st 20,st 21,st 22,st 24,st 25,st 26,st 28,st 29,st 31,st 32,st 33,st 34,st 35,st 36,st 37,st 38,st 39,st 40,st 41,st 42,st 43,st 44,st 45,st 46]}}
theorem VJ(P:Params):as2=(qQ 322 K P).map (·.1):=by kernel_rfl
theorem hl:PySem.W.LeftO PySem.Challenge.rw_websbykind_k80_opposites.row.prog qv [] (λs=>PySem.W.xlAt qv [] s&&PySem.W.recOk (PySem.W.OpenRow.toRowW PySem.Challenge.rw_websbykind_k80_opposites.row).records s) (λs=>as2.map s.heap.get?) (λw=>(qQ 322 K w.params).map λp:Nat×Obj=>some p.2) 8000:=λw=>by kernel_rfl
end L8
namespace L2
abbrev Key:=Sum Int Str
noncomputable def NR:Key->Value->Bool
 |.inl k,v=>Value.isInt k v
 |.inr x,v=>Value.isStrOf x v
noncomputable def aac(w:World):Key->Int
 |.inl k=>hashInt k
 |.inr x=>hashStr w x
theorem bB:∀{k:Key}{v:Value},NR k v=true->(∃i t,k=Sum.inl i/\v=Value.int i t)\/(∃x t,k=Sum.inr x/\v=Value.str x t)
 |.inl i,v,h=>by
  obtain⟨t,e⟩:=Value.isInt_shape (k:=i) (v:=v) h;exact .inl ⟨i,t,rfl,e⟩
 |.inr x,v,h=>by
  obtain⟨t,e⟩:=Value.isStrOf_shape (x:=x) (v:=v) h;exact .inr ⟨x,t,rfl,e⟩
theorem O6(a b:Int):decide ((Sum.inl a:Key)=Sum.inl b)=(a==b):=by
 by_cases e:a=b
 . subst e;simp
 .
  have h : ¬ (Sum.inl a:Key)=Sum.inl b:=λq=>e (Sum.inl.inj q)
  rw[t7 h];exact (beq_eq_false_iff_ne.mpr e).symm
theorem O7(a b:Str):decide ((Sum.inr a:Key)=Sum.inr b)=decide (a=b):=by
 by_cases e:a=b
 . subst e;simp
 .
  have h : ¬ (Sum.inr a:Key)=Sum.inr b:=λq=>e (Sum.inr.inj q)
  rw[t7 h,t7 e]
theorem O8(a:Int)(b:Str):decide ((Sum.inl a:Key)=Sum.inr b)=false:=t7 (λq=>nomatch q)
theorem O9(a:Str)(b:Int):decide ((Sum.inr a:Key)=Sum.inl b)=false:=t7 (λq=>nomatch q)
def rY(prog:Program)(w:World):PySem.KeyKind prog w Key where
 is:=NR
 hash:=aac w
 inj:=λv a b ha hb=>by
  rcases bB ha with ⟨i,t,rfl,rfl⟩ |⟨x,t,rfl,rfl⟩
  .
   rcases bB hb with ⟨j,u,rfl,e⟩ |⟨y,u,rfl,e⟩
   . injection e with e1 _;rw[e1]
   . exact nomatch e
  .
   rcases bB hb with ⟨j,u,rfl,e⟩ |⟨y,u,rfl,e⟩
   . exact nomatch e
   . injection e with e1 _;rw[e1]
 byValue:=λk v h=>by
  rcases bB h with ⟨i,t,rfl,rfl⟩ |⟨x,t,rfl,rfl⟩ <;> rfl
 pyHash:=λhv h=>by
  rcases bB hv with ⟨i,t,rfl,rfl⟩ |⟨x,t,rfl,rfl⟩
  . exact wpAny_pyHash_int h
  . exact wpAny_pyHash_str h
 eqBool:=λhu hv h=>by
  rcases bB hu with ⟨i,t,rfl,rfl⟩ |⟨x,t,rfl,rfl⟩
  .
   rcases bB hv with ⟨j,u,rfl,rfl⟩ |⟨y,u,rfl,rfl⟩
   . rw[O6]at h;exact wpAny_eqBool_int h
   . rw[O8]at h;exact SeqAt.EqAt.int_str i t y u _ _ _ _ h
  .
   rcases bB hv with ⟨j,u,rfl,rfl⟩ |⟨y,u,rfl,rfl⟩
   . rw[O9]at h;exact SeqAt.EqAt.str_int x t j u _ _ _ _ h
   . rw[O7]at h;exact wpAny_eqBool_str h
 «strs»:=λk x t v h=>by
  rcases bB h with ⟨i,u,rfl,e⟩ |⟨y,u,rfl,e⟩
  . exact nomatch e
  . injection e with e1 _;subst e1;cases v <;> rfl
inductive V where
 |non |bl (b:Bool) |int (i:Int) |str (x:Str) |Pa (b:Array UInt8) |flt (b:UInt64) |ref (a:Addr) |ty (n:String)
 deriving DecidableEq
noncomputable def RelV:V->Value->Prop
 |.non,u=>u=Value.none
 |.bl b,u=>u=Value.bool b
 |.int i,u=>∃t,u=Value.int i t
 |.str x,u=>∃t,u=Value.str x t
 |.Pa b,u=>∃t,u=Value.bytes b t
 |.flt b,u=>∃t,u=Value.float b t
 |.ref a,u=>u=Value.ref a
 |.ty n,u=>u=Value.type n
abbrev Vals:List V->List Value->Prop:=Paired RelV
theorem Vals.length{xs:List V}{us:List Value}(r:Vals xs us):xs.length=us.length:=Paired.length r
theorem Vals.get:∀{xs:List V}{us:List Value}{i:Nat}{x:V},Vals xs us->xs[i]?=some x->∃u,us[i]?=some u/\RelV x u
 |_,_,_,_,.nil,e=>by simp at e
 |_,_,0,_,.cons r _,e=>by simp at e;subst e;exact⟨_,rfl,r⟩
 |_,_,i+1,x,.cons _ t,e=>by
  obtain⟨u,h1,h2⟩:=Vals.get (i:=i) (x:=x) t (by simpa using e)
  exact⟨u,by simpa using h1,h2⟩
theorem Vals.set{x:V}{u:Value}(r:RelV x u):∀{xs:List V}{us:List Value} (i:Nat),Vals xs us->Vals (xs.set i x) (us.set i u)
 |_,_,_,.nil=>.nil
 |_,_,0,.cons _ t=>.cons r t
 |_,_,i+1,.cons q t=>.cons q (Vals.set r i t)
theorem Vals.append:∀{xs ys:List V}{us ws:List Value},Vals xs us->Vals ys ws->Vals (xs++ys) (us++ws)
 |_,_,_,_,.nil,s=>s
 |_,_,_,_,.cons r t,s=>.cons r (Vals.append t s)
theorem Vals.take:∀{xs:List V}{us:List Value} (n:Nat),Vals xs us->Vals (xs.take n) (us.take n)
 |_,_,0,_=>.nil
 |_,_,_+1,.nil=>.nil
 |_,_,n+1,.cons r t=>.cons r (Vals.take n t)
theorem Vals.drop:∀{xs:List V}{us:List Value} (n:Nat),Vals xs us->Vals (xs.drop n) (us.drop n)
 |_,_,0,r=>r
 |_,_,_+1,.nil=>.nil
 |_,_,n+1,.cons _ t=>Vals.drop n t
theorem Vals.none_of:∀{xs:List V}{us:List Value}{i:Nat},Vals xs us->xs[i]?=none->us[i]?=none:=λ{xs us i} r e=>by
 have h1:=r.length;have h2:xs.length<=i:=l7.mp e;exact l7.mpr ⋯
def VL:Option V->Option Value->Prop
 |some v,some u=>RelV v u
 |none,none=>True
 |_,_=>False
def KV{κ:Type}:List (κ×V)->List (κ×Value)->Prop:=Paired λ(p:κ×V) (q:κ×Value)=>p.1=q.1/\RelV p.2 q.2
noncomputable def kV:Key->V
 |.inl i=>.int i
 |.inr x=>.str x
inductive HO where
 |lst (xs:List V)
 |tup (xs:List V)
 |dK (ju:List (Key×V)) |dT (ju:List (List Key×V))
 |set (S:Int->Bool) (n:Nat)
 |ins (C dx:Addr) (fs:List (Str×V))
 |own (x:Addr)
 |xd (fs:List (Str×V))
 |met (f x:Addr)
 |Zd (lo hi:Int)
 |jv (o:Obj) (u:HO)
 |kN (ps:Array Value)
 |ext (φ:Heap->Prop)
abbrev Hp:=Addr->Option HO
noncomputable def upd(H:Hp)(a:Addr)(o:HO):Hp:=λb=>if b=a then some o else H b
theorem aA:upd H a o a=some o:=by unfold upd;rw[fN rfl]
theorem az(h:b≠a):upd H a o b=H b:=by unfold upd;rw[gN h]
theorem aJ{H:Hp}{a b:Addr}{o:HO}(h:H a=some o)(h':H b=none):a≠b:=by intro e;subst e;rw[h]at h';cases h'
def fJ(h:Heap)(a:Addr)(its:Array Value):Prop:=∃o,h.get? a=some o/\(o.cls=.type "tuple" /\∃n,o.data=.seq its n)/\o.dict=none
theorem fJ.tup{h:Heap}{a:Addr}{its:Array Value}(x:fJ h a its):IsTup h a its:=let ⟨o,e,c,_⟩:=x;⟨o,e,c⟩
theorem fJ.new(h:Heap)(its:Array Value):fJ (h.push { cls:=.type "tuple",data:=.seq its}) h.objs.size its:=⟨_,eJ _ rfl,⟨rfl,_,rfl⟩,rfl⟩
section
variable(P:Program)(w:World)
def cY(H:Hp)(h:Heap)(a:Addr):HO->Prop
 |.lst xs=>xs.length<=sizeLine/\∃(its:List Value) (n:Nat),Vals xs its/\h.get? a=some { cls:=.type "list",data:=.seq its.toArray n}
 |.tup xs=>xs.length<=sizeLine/\∃its:List Value,Vals xs its/\fJ h a its.toArray
 |.dK ju=>ju.length<=sizeLine/\(a==sysModules)=false/\∃vs,KV ju vs/\h.DictOf (rY P w) a vs
 |.dT ju=>ju.length<=sizeLine/\(a==sysModules)=false/\∃xs:List (List Key×Addr×Value),
   Paired (λ(p:List Key×V) (q:List Key×Addr×Value)=>p.1=q.1/\H q.2.1=some (.tup (p.1.map kV))/\RelV p.2 q.2.2) ju xs/\
   ∃o es ep,h.get? a=some o/\o.ExactDict/\o.data=.dict es ep/\es.toList=xs.map (entryOfKey (tupleKind (rY P w)))/\(xs.map (·.1)).Nodup
 |.set S n=>h.SetOf (intKind P w) a S n
 |.ins C dx fs=>H dx=some (.own a)/\fs.length<=1000/\dx≠a/\h.get? a=some (PySem.W.instObj C dx)/\
   ∃mA,h.Ns1 dx mA/\(∀f,VL (fs.lookup f) (mA f))/\PySem.Within mA (fs.map (·.1))
 |.own _=>∃o,h.get? a=some o
 |.xd fs=>∃mA,h.Ns1 a mA/\∀f,VL (fs.lookup f) (mA f)
 |.Zd lo hi=>∃t u v,h.get? a=some { cls:=.type "range",data:=.fields #[.int lo t,.int hi u,.int 1 v]}
 |.jv o u=>h.get? a=some o/\cY H h a u
 |.kN ps=>h.get? a=some { cls:=.none,data:=.fields ps}
 |.met f x=>h.get? a=some (PySem.W.methodObj (.ref f) (.ref x))
 |.ext φ=>φ h/\(∃o,h.get? a=some o)/\∀h1 h2:Heap,φ h1->(∀o,h1.get? a=some o->h2.get? a=some o)->φ h2
def kO(H:Hp)(h:Heap):Prop:=∀a o,H a=some o->cY P w H h a o
end
section
variable{P:Program}{w:World}{H H':Hp}{h h':Heap}{a:Addr}{o:HO}
theorem cY.lt(x:cY P w H h a o):a<h.objs.size:=by
 cases o with
 |lst xs=>obtain⟨_,_,_,_,e⟩:=x;exact eP e
 |tup xs=>obtain⟨_,_,_,_,e,_⟩:=x;exact eP e
 |dK ju=>obtain⟨_,_,_,_,o,_,_,e,_⟩:=x;exact eP e
 |dT ju=>obtain⟨_,_,_,_,o,_,_,e,_⟩:=x;exact eP e
 |set S n=>obtain⟨o,_,_,_,e,_⟩:=x;exact eP e
 |ins C dx fs=>obtain⟨_,_,_,e,_⟩:=x;exact eP e
 |own y=>obtain⟨_,e⟩:=x;exact eP e
 |xd fs=>obtain⟨_,⟨_,_,_,e,_⟩,_⟩:=x;exact eP e
 |Zd lo hi=>obtain⟨_,_,_,e⟩:=x;exact eP e
 |jv ob u=>obtain⟨e,_⟩:=x;exact eP e
 |kN ps=>exact eP (show h.get? a=some _ from x)
 |met f y=>exact eP (show h.get? a=some _ from x)
 |ext φ=>obtain⟨_,⟨_,e⟩,_⟩:=x;exact eP e
theorem Paired.VM{α β:Type}{F G:α->β->Prop}:∀{l₁:List α}{l₂:List β},Paired F l₁ l₂->(∀a b,F a b->G a b)->Paired G l₁ l₂
 |_,_,.nil,_=>.nil
 |_,_,.cons r t,f=>.cons (f _ _ r) (Paired.VM t f)
theorem cY.stay(x:cY P w H h a o)(k:∀b u,(b=a\/H b=some (.own a))->h.get? b=some u->h'.get? b=some u)
  (ho:∀b,H b=some (.own a)->H' b=some (.own a)) (ht:∀b xs,H b=some (.tup xs)->H' b=some (.tup xs)):cY P w H' h' a o:=by
 induction o with
 |lst xs=>obtain⟨z,its,n,r,e⟩:=x;exact⟨z,its,n,r,k _ _ (.inl rfl) e⟩
 |tup xs=>obtain⟨z,its,r,ob,e,c⟩:=x;exact⟨z,its,r,ob,k _ _ (.inl rfl) e,c⟩
 |dK ju=>obtain⟨z,y,vs,r,ob,es,ep,e,c⟩:=x;exact⟨z,y,vs,r,ob,es,ep,k _ _ (.inl rfl) e,c⟩
 |dT ju=>obtain⟨z,y,xs,r,ob,es,ep,e,c⟩:=x;exact⟨z,y,xs,Paired.VM r λp q z=>⟨z.1,ht _ _ z.2.1,z.2.2⟩,ob,es,ep,k _ _ (.inl rfl) e,c⟩
 |set S n=>obtain⟨ob,es,ep,t,e,c⟩:=x;exact⟨ob,es,ep,t,k _ _ (.inl rfl) e,c⟩
 |ins C dx fs=>obtain⟨d,z,ne,e,mA,⟨od,es,ep,e2,c⟩,r⟩:=x;exact⟨ho _ d,z,ne,k _ _ (.inl rfl) e,mA,⟨od,es,ep,k _ _ (.inr d) e2,c⟩,r⟩
 |own y=>obtain⟨ob,e⟩:=x;exact⟨ob,k _ _ (.inl rfl) e⟩
 |xd fs=>obtain⟨mA,⟨od,es,ep,e,c⟩,r⟩:=x;exact⟨mA,⟨od,es,ep,k _ _ (.inl rfl) e,c⟩,r⟩
 |Zd lo hi=>obtain⟨t,u,v,e⟩:=x;exact⟨t,u,v,k _ _ (.inl rfl) e⟩
 |jv ob u ih=>obtain⟨e,q⟩:=x;exact⟨k _ _ (.inl rfl) e,ih q⟩
 |kN ps=>have e:h.get? a=some { cls:=.none,data:=.fields ps}:=x;show h'.get? a=some { cls:=.none,data:=.fields ps};exact k a _ (.inl rfl) e
 |met f y=>have e:h.get? a=some (PySem.W.methodObj (.ref f) (.ref y)):=x;show h'.get? a=some (PySem.W.methodObj (.ref f) (.ref y));exact k a _ (.inl rfl) e
 |ext φ=>obtain⟨p,⟨o,e⟩,st⟩:=x;exact⟨st _ _ p λo q=>k _ _ (.inl rfl) q,⟨o,k _ _ (.inl rfl) e⟩,st⟩
theorem kO.lt(x:kO P w H h)(e:H a=some o):a<h.objs.size:=(x a o e).lt
theorem kO.fresh(x:kO P w H h)(e:h.objs.size<=a):H a=none:=by
 cases q:H a with
 |none=>rfl
 |some u=>exact absurd (eD (x.lt q) e) (oD _)
theorem kO.kept(x:kO P w H h)(k:∀b u,h.get? b=some u->h'.get? b=some u):kO P w H h':=λa o e=>
 (x a o e).stay (λb u _ q=>k b u q) (λ_ q=>q) λ_ _ q=>q
theorem kO.laid(x:kO P w H h)(k:∀b u,h.get? b=some u->h'.get? b=some u)(hp:h.objs.size<=a)(new:cY P w (upd H a o) h' a o):kO P w (upd H a o) h':=λb u e=>by
 have hn:=x.fresh hp;by_cases hb:b=a
 . subst hb;rw[aA]at e;cases e;exact new
 . rw[az hb]at e;exact (x b u e).stay (λc v _ q=>k c v q) (λc q=>by rw[az (aJ q hn)];exact q) λc xs q=>by rw[az (aJ q hn)];exact q
end
def Rd(H:Hp)(a:Addr)(u:HO):Prop:=H a=some u\/∃o,H a=some (.jv o u)
theorem Rd.ok{P:Program}{w:World}{H:Hp}{h:Heap}{a:Addr}{u:HO}(r:Rd H a u)(x:kO P w H h):cY P w H h a u:=by
 rcases r with r |⟨o,r⟩
 . exact x a u r
 . obtain⟨_,q⟩:=x a _ r;exact q
noncomputable def Ze:Option HO->Prop
 |some (.lst _)=>True
 |some (.dK _)=>True
 |some (.dT _)=>True
 |some (.set _ _)=>True
 |some (.ins _ _ _)=>True
 |some (.ext _)=>True
 |_=>False
section
variable{P:Program}{w:World}{H:Hp}{h h':Heap}{x e:Addr}{o':HO}
theorem kO.write(ok:kO P w H h)(mu:Ze (H x))(he:e=x\/H e=some (.own x))(k:∀b u,b≠e->h.get? b=some u->h'.get? b=some u)(U9:∃u,h'.get? e=some u)
  (new:cY P w (upd H x o') h' x o'):kO P w (upd H x o') h':=λb u q=>by
 have VN:∀c y,H c=some (.own y)->c≠x:=λc y r z=>by subst z;rw[r]at mu;exact mu
 have aad:∀c xs,H c=some (.tup xs)->c≠x:=λc xs r z=>by subst z;rw[r]at mu;exact mu
 by_cases hb:b=x
 . subst hb;rw[aA]at q;cases q;exact new
 .
  rw[az hb]at q;by_cases Pb:b=e
  .
   have q':H b=some (.own x):=by
    rcases he with z |z
    . exact absurd (Pb.trans z) hb
    . rw[Pb];exact z
   rw[q]at q';cases q';obtain⟨v,hv⟩:=U9;exact⟨v,by rw[Pb];exact hv⟩
  .
   refine (ok b u q).stay (λc v hc r=>k c v ?_ r) (λc r=>by rw[az (VN c b r)];exact r) λc xs r=>by rw[az (aad c xs r)];exact r
   rcases hc with rfl |hc
   . exact Pb
   .
    rintro rfl;rcases he with z |z
    . exact VN c b hc z
    . rw[hc]at z;cases z;exact hb rfl
end
structure Un(fs ex:List Addr)(H H':Hp)(h h':Heap):Prop where
 keep:∀b o,h.get? b=some o->H b=none->b∉fs->b∉ex->h'.get? b=some o
 slot:∀b o,h.get? b=some o->H b=none->b∈fs->b∉ex->∃sl,h'.get? b=some { o with slots:=sl}
 free:∀b o,h.get? b=some o->H b=none->b∉ex->H' b=none
 there:∀b o,h.get? b=some o->b∉ex->∃o',h'.get? b=some o'
 tups:∀b xs,H b=some (.tup xs)->H' b=some (.tup xs)
 jQ:∀b o u,H b=some (.jv o u)->H' b=some (.jv o u)
 jR:∀b ps,H b=some (.kN ps)->∃more,H' b=some (.kN (ps++more))
section
variable{fs fs' ex ex':List Addr}{H H1 H2:Hp}{h h1 h2 h':Heap}{a x e:Addr}{o:HO}
theorem Un.any(u:Un fs ex H H1 h h1){b:Addr}{ob:Obj}(q:h.get? b=some ob)(n:H b=none)(hx:b∉ex):∃sl,h1.get? b=some { ob with slots:=sl}:=by
 by_cases hb:b∈fs
 . exact u.slot b ob q n hb hx
 . exact⟨ob.slots,u.keep b ob q n hb hx⟩
theorem Un.kept(k:∀b u,h.get? b=some u->h'.get? b=some u):Un fs ex H H h h':=
 ⟨λb ob q _ _ _=>k b ob q,λb ob q _ _ _=>⟨ob.slots,k b ob q⟩,λ_ _ _ n _=>n,λb ob q _=>⟨ob,k b ob q⟩,λ_ _ q=>q,λ_ _ _ q=>q,λ_ ps q=>⟨#[],by rw[q];simp⟩⟩
theorem Un.refl:Un fs ex H H h h:=Un.kept λ_ _ q=>q
theorem Un.laid(k:∀b u,h.get? b=some u->h'.get? b=some u)(hp:h.objs.size<=a)(hn:H a=none):Un fs ex H (upd H a o) h h' where
 keep:=λb u q _ _ _=>k b u q
 slot:=λb u q _ _ _=>⟨u.slots,k b u q⟩
 free:=λb u q n _=>by rw[az (l4 (eD (eP q) hp))];exact n
 there:=λb u q _=>⟨u,k b u q⟩
 tups:=λb xs q=>by rw[az (aJ q hn)];exact q
 jQ:=λb u xs q=>by rw[az (aJ q hn)];exact q
 jR:=λb ps q=>⟨#[],by rw[az (aJ q hn),q];simp⟩
theorem Un.write(mu:Ze (H x))(he:e=x\/H e=some (.own x))(k:∀b u,b≠e->h.get? b=some u->h'.get? b=some u)(U9:∃u,h'.get? e=some u):Un fs ex H (upd H x o) h h':=by
 have hx:∀b,H b=none->b≠x:=λb n z=>by subst z;rw[n]at mu;exact mu
 have hb:∀b,H b=none->b≠e:=λb n z=>by
  subst z;rcases he with r |r
  . exact hx b n r
  . rw[n]at r;cases r
 have hm:∀b u,H b=some u->¬ Ze (some u)->b≠x:=λb u q nm z=>by subst z;rw[q]at mu;exact nm mu
 refine⟨λb u q n _ _=>k b u (hb b n) q,λb u q n _ _=>⟨u.slots,k b u (hb b n) q⟩,λb u q n _=>by rw[az (hx b n)];exact n,λb u q _=>?_,
  λb xs q=>by rw[az (hm b _ q λz=>z)];exact q,λb u xs q=>by rw[az (hm b _ q λz=>z)];exact q,λb ps q=>⟨#[],by rw[az (hm b _ q λz=>z),q];simp⟩⟩
 by_cases Pb:b=e
 . subst Pb;exact U9
 . exact⟨u,k b u Pb q⟩
end
noncomputable def Zf(h:Heap)(H:Hp):List Addr:=(List.range h.objs.size).filter λa=>(H a).isSome
def rZ(h:Heap)(H:Hp):Heap:=PySem.W.hideAll h (Zf h H)
theorem Af(h:Heap)(H:Hp):(rZ h H).objs.size=h.objs.size:=PySem.W.hideAll_size _ _
theorem DG(e:h.get? b=some o)(n:H b=none):(rZ h H).get? b=some o:=
 PySem.W.hideAll_get _ e λhm=>by
  have q:(H b).isSome=true:=(i8.mp hm).2;rw[n]at q;simp at q
theorem Jw(e:(rZ h H).get? b=some o):h.get? b=some o/\H b=none:=by
 have e':h.get? b=some o:=PySem.W.of_hideAll (Zf h H) e;refine⟨e',?_⟩;cases q:H b with
 |none=>rfl
 |some x=>
  have hm:b∈Zf h H:=i8.mpr ⟨sT.mpr (eP e'),by simp[q]⟩
  have z:(rZ h H).get? b=none:=PySem.W.hideAll_none (Zf h H) hm;rw[z]at e;cases e
noncomputable def Jx(g h:Heap)(L:Addr):List (Addr×Obj):=(List.range h.objs.size).filterMap λa=>if a=L\/(g.get? a).isSome=true then none else (h.get? a).map λo=>(a,o)
def rest(g h:Heap)(L d:Addr):List (Addr×Obj):=(Jx g h L).filter λp=>decide (p.1≠d)
structure Mod(K:Frag)(mg:Str->Option Value)(base:Heap):Prop where
 Dn:K.In base
 glob:base.Ns mainGlobals mg
 blt:∃mb,base.Ns builtinsNs mb/\∀x:Str,x≠ "__name__" ->mb x=bootBuiltins x
 nolimit:base.NoLimit
structure Cx where
 prog:Program
 w:World
 K:Frag
 mg:Str->Option Value
 base:Heap
 A:Around
 N:List Str
 s₀:Shared
 H₀:Hp
 env:Env
 outer:List Env
 stack:List Env
 ex:List Addr
 fn:Str->Bool
 calm:Bool
 pn:List (Addr×Obj)
 xe:Value->Shared->Prop
def frs(l:List Env):List Addr:=l.filterMap (·.frame)
abbrev Cx.fs(X:Cx):List Addr:=frs X.outer
def gR(sc:Scope)(x:Str):Prop:=sc.names.lookup x=some .local\/sc.names.lookup x=some .cell\/sc.names.lookup x=some .free
def Loc(sc:Scope)(x:Str):Prop:=sc.names.lookup x=some .local\/sc.names.lookup x=some .cell
def Look(env:Env)(h:Heap)(m:Str->Option Value)(x:Str)(u:Value):Prop:=
 (env.kindOf x=some .local/\m x=some u)\/((env.kindOf x=some .cell\/env.kindOf x=some .free)/\∃c,env.cells.lookup x=some c/\h.IsCell c (some u))
structure Cx.Ok(X:Cx):Prop where
 mod:Mod X.K X.mg X.base
 kind:X.env.scope.kind=.function
 glob:X.env.globals=mainGlobals
 blt:X.env.builtins=builtinsNs
 above:X.s₀⁻¹<=X.env.locals
 inj:∀x y c,X.env.cells.lookup x=some c->X.env.cells.lookup y=some c->x=y
 has:∀x,(X.env.kindOf x=some .cell\/X.env.kindOf x=some .free)->∃c,X.env.cells.lookup x=some c
 Ph:∀x c,X.fn x=true->X.env.cells.lookup x=some c->X.s₀⁻¹<=c
 hd:X.calm=true->X.A.handled=none
 frames:X.A.frames=some X.stack
 stk:X.stack=X.outer\/(X.stack=X.env::X.outer/\X.env.frame=some X.env.locals)
 Va:∀b∈X.ex,b≠X.env.locals/\∀x c,X.env.cells.lookup x=some c->c≠b
 bs:∀b o,X.base.get? b=some o->X.s₀.heap.get? b=some o/\X.H₀ b=none
 DK:X.base.objs.size<=X.s₀⁻¹
 uF:∀b o,X.base.get? b=some o->b∉X.ex
 wI:∀b∈X.ex,b∉X.fs
 jS:X.s₀.heap.FunFrames X.base X.outer
 Jy:∀b∈X.fs,X.H₀ b=none
structure Inv(X:Cx)(ah:List (Addr×Obj))(σ:List (Option V))(H:Hp)(s:Shared):Prop where
 ok:X.Ok
 os:s.os=X.s₀.os
 bare:AllBare s.gens
 base:Un X.fs X.ex X.H₀ H X.s₀.heap s.heap
 loc:∃m,s.heap.Ns X.env.locals m/\∀(i:Nat) (x:Str) (v:V),X.N[i]?=some x->σ[i]?=some (some v)->gR X.env.scope x->∃u,RelV v u/\Look X.env s.heap m x u
 cell:∀x c,X.env.cells.lookup x=some c->∃v,s.heap.IsCell c v
 free:H X.env.locals=none
 dP:∀x c,X.env.cells.lookup x=some c->H c=none
 pin:∀p∈X.pn++ah,s.heap.get? p.1=some p.2/\H p.1=none/\p.1≠X.env.locals/\p.1∉X.fs/\∀v,p.2.data≠.cell v
 hok:kO X.prog X.w H s.heap
 len:σ.length=X.N.length
section
variable{X:Cx}{ah:List (Addr×Obj)}{σ:List (Option V)}{H H':Hp}{s:Shared}{h':Heap}
theorem Cx.Ok.aae(ok:X.Ok)(e:X.base.get? b=some o):b∉X.fs:=λhb=>by
 have:=(ok.jS.mem hb).1;rw[e]at this;cases this
theorem Inv.bs(I:Inv X ah σ H s):∀b o,X.base.get? b=some o->s.heap.get? b=some o/\H b=none:=λb o e=>
 ⟨I.base.keep b o (I.ok.bs b o e).1 (I.ok.bs b o e).2 (I.ok.aae e) (I.ok.uF b o e),I.base.free b o (I.ok.bs b o e).1 (I.ok.bs b o e).2 (I.ok.uF b o e)⟩
theorem Inv.bk(I:Inv X ah σ H s):∀b o,X.base.get? b=some o->s.heap.get? b=some o:=λb o e=>(I.bs b o e).1
theorem Inv.mod(I:Inv X ah σ H s):Mod X.K X.mg X.base:=I.ok.mod
theorem Inv.nB(I:Inv X ah σ H s):X.K.In s.heap:=I.ok.mod.Dn.keeps I.bk
theorem Inv.nolimit(I:Inv X ah σ H s):s.heap.NoLimit:=I.ok.mod.nolimit.keeps I.bk
theorem Inv.lt(I:Inv X ah σ H s):X.env.locals<s⁻¹:=let ⟨_,hn,_⟩:=I.loc;hn.lt
theorem Inv.sz(I:Inv X ah σ H s):X.s₀⁻¹<=s⁻¹:=i5 I.ok.above (CC I.lt)
theorem Inv.aaf(I:Inv X ah σ H s)(h:s⁻¹<=a):a∉X.fs:=λhb=>by
 obtain⟨_,o,ho,_⟩:=I.ok.jS.mem hb;exact absurd (eD (eP ho) (i5 I.sz h)) (oD _)
theorem Inv.Pj(I:Inv X ah σ H s):∀x c,X.env.cells.lookup x=some c->c≠X.env.locals:=λx c e z=>by
 obtain⟨v,o,ho,hd⟩:=I.cell x c e;obtain⟨m,⟨o',es,ep,ho',hd',_⟩,_⟩:=I.loc;rw[z,ho']at ho;cases ho;rw[hd']at hd;cases hd
theorem Inv.jS(I:Inv X ah σ H s):s.heap.FunFrames X.base X.outer:=by
 have all:∀(l:List Env),(∀b∈frs l,b∈X.fs)->X.s₀.heap.FunFrames X.base l->s.heap.FunFrames X.base l:=by
  intro l
  induction l with
  |nil=>intro _ _;trivial
  |cons env r ih=>
   intro hs hl;obtain⟨hk,⟨L,o,hf,hn,ho,hd⟩,hr⟩:=hl;have hL:L∈X.fs:=hs L (by unfold frs;rw[l8,hf];exact dA)
   obtain⟨sl,e⟩:=I.base.slot L o ho (I.ok.Jy L hL) hL λz=>I.ok.wI L z hL
   exact⟨hk,⟨L,_,hf,hn,e,hd⟩,ih (λb hb=>hs b (by unfold frs;rw[l8,hf];exact a9 _ hb)) hr⟩
 exact all X.outer (λ_ hb=>hb) I.ok.jS
theorem Inv.stack(I:Inv X ah σ H s):s.heap.FunFrames X.base X.stack:=by
 rcases I.ok.stk with e |⟨e,hf⟩
 . rw[e];exact I.jS
 .
  rw[e];obtain⟨m,hn,_⟩:=I.loc;refine .cons (by rw[I.ok.kind];decide) hf hn ?_ I.jS
  exact Heap.get?_none_of_le (i5 I.ok.DK I.ok.above)
theorem Inv.wJ(I:Inv X ah σ H s):∀b∈frs X.stack,b∈X.env.locals::X.fs:=λb hb=>by
 rcases I.ok.stk with e |⟨e,hf⟩
 . rw[e]at hb;exact a9 _ hb
 . rw[e]at hb;unfold frs at hb;rw[l8,hf]at hb;exact hb
theorem Inv.r9(I:Inv X ah σ H s):∀b∈frs X.stack,H b=none:=λb hb=>by
 rcases d6.mp (I.wJ b hb)with e |hb
 . rw[e];exact I.free
 . obtain⟨_,o,ho,_⟩:=I.ok.jS.mem hb;exact I.base.free b o ho (I.ok.Jy b hb) λz=>I.ok.wI b z hb
theorem Inv.step{g':Array GenState}{t':Nat}{d':Drawn}{ch:List Addr}(I:Inv X ah σ H s)
  (hch:∀b∈ch,(b∈X.ex\/X.s₀⁻¹<=b)/\b≠X.env.locals/\(∀x c,X.env.cells.lookup x=some c->c≠b)/\∀p∈X.pn++ah,p.1≠b)
  (keep:∀b o,b≠X.env.locals->b∉X.fs->b∉ch->s.heap.get? b=some o->H b=none->h'.get? b=some o)
  (slot:∀b o,b≠X.env.locals->b∈X.fs->b∉ch->s.heap.get? b=some o->H b=none->∃sl,h'.get? b=some { o with slots:=sl}) (free:∀b o,b∉ch->s.heap.get? b=some o->H b=none->H' b=none)
  (there:∀b o,b∉ch->s.heap.get? b=some o->∃o',h'.get? b=some o')
  (tups:∀b xs,H b=some (.tup xs)->H' b=some (.tup xs)) (jQ:∀b o u,H b=some (.jv o u)->H' b=some (.jv o u)) (jR:∀b ps,H b=some (.kN ps)->∃more,H' b=some (.kN (ps++more)))
  (ns:∀m,s.heap.Ns X.env.locals m->h'.Ns X.env.locals m) (hok:kO X.prog X.w H' h') (hg:AllBare g') :
  Inv X ah σ H' { s with heap:=h',gens:=g',drawn:=d',toks:=t'}:=by
 have neL:∀b o,X.s₀.heap.get? b=some o->b≠X.env.locals:=λb o e=>l4 (eD (eP e) I.ok.above)
 have Zg:∀b o,X.s₀.heap.get? b=some o->b∉X.ex->b∉ch:=λb o e hx hb=>by
  rcases (hch b hb).1 with z |z
  . exact hx z
  . exact absurd (eD (eP e) z) (oD _)
 have cellK:∀x c,X.env.cells.lookup x=some c->∀v,s.heap.IsCell c v->h'.IsCell c v:=λx c e v ⟨o,ho,hd⟩=>by
  have VP:c∉ch:=λz=>(hch c z).2.2.1 x c e rfl
  by_cases hc:c∈X.fs
  . obtain⟨sl,q⟩:=slot c o (I.Pj x c e) hc VP ho (I.dP x c e);exact⟨_,q,hd⟩
  . exact⟨o,keep c o (I.Pj x c e) hc VP ho (I.dP x c e),hd⟩
 refine⟨I.ok,I.os,hg,⟨λb o e n hb hx=>?_,λb o e n hb hx=>?_,λb o e n hx=>?_,λb o e hx=>?_,λb xs e=>tups b xs (I.base.tups b xs e),λb o xs e=>jQ b o xs (I.base.jQ b o xs e),λb ps e=>?_⟩,?_,λx c e=>?_,?_,λx c e=>?_,λp hp=>?_,hok,I.len⟩
 . exact keep b o (neL b o e) hb (Zg b o e hx) (I.base.keep b o e n hb hx) (I.base.free b o e n hx)
 . obtain⟨sl,e1⟩:=I.base.slot b o e n hb hx;obtain⟨Zh,e2⟩:=slot b _ (neL b o e) hb (Zg b o e hx) e1 (I.base.free b o e n hx);exact⟨Zh,e2⟩
 . obtain⟨o',e1⟩:=I.base.there b o e hx;exact free b o' (Zg b o e hx) e1 (I.base.free b o e n hx)
 . obtain⟨o',e1⟩:=I.base.there b o e hx;exact there b o' (Zg b o e hx) e1
 . obtain⟨m1,e1⟩:=I.base.jR b ps e;obtain⟨m2,e2⟩:=jR b _ e1;exact⟨m1++m2,by rw[e2,Array.append_assoc]⟩
 .
  obtain⟨m,hn,hl⟩:=I.loc;refine⟨m,ns m hn,λi x v e1 e2 e3=>?_⟩
  obtain⟨u,r,l⟩:=hl i x v e1 e2 e3;refine⟨u,r,?_⟩;rcases l with l |⟨k,c,e,z⟩
  . exact .inl l
  . exact .inr ⟨k,c,e,cellK x c e _ z⟩
 . obtain⟨v,z⟩:=I.cell x c e;exact⟨v,cellK x c e v z⟩
 . obtain⟨m,⟨o,_,_,ho,_⟩,_⟩:=I.loc;exact free _ o (λz=>(hch _ z).2.1 rfl) ho I.free
 . obtain⟨v,o,ho,hd⟩:=I.cell x c e;exact free c o (λz=>(hch c z).2.2.1 x c e rfl) ho (I.dP x c e)
 .
  obtain⟨e,n,ne,nf,d⟩:=I.pin p hp;have VP:p.1∉ch:=λz=>(hch p.1 z).2.2.2 p hp rfl
  exact⟨keep p.1 p.2 ne nf VP e n,free p.1 p.2 VP e n,ne,nf,d⟩
theorem Inv.un{t':Nat}(I:Inv X ah σ H s)(u:Un X.fs [] H H' s.heap h')(hok:kO X.prog X.w H' h'):Inv X ah σ H' { s with heap:=h',toks:=t'}:=by
 obtain⟨m,⟨o,es,ep,ho,r⟩,_⟩:=id I.loc;obtain⟨sl,hL⟩:=u.any ho I.free ⋯;exact I.step (g':=s.gens) (d':=s.drawn) (ch:=[]) (λ_ z=>nomatch z) (λb o _ hb _ e n=>u.keep b o e n hb ⋯) (λb o _ hb _ e n=>u.slot b o e n hb ⋯) (λb o _ e n=>u.free b o e n ⋯) (λb o _ e=>u.there b o e ⋯) u.tups u.jQ u.jR (λm' hm=>by
  obtain⟨o',es',Jz,ho',r'⟩:=hm;rw[ho]at ho';cases ho';exact⟨_,es',Jz,hL,r'⟩) hok I.bare
theorem Inv.call{g':Array GenState}{t':Nat}{d':Drawn}{ch:List Addr}(I:Inv X ah σ H s)(u:Un (frs X.stack) ch H H' s.heap h')(hok:kO X.prog X.w H' h')(hg:AllBare g')
  (hch:∀b∈ch,(b∈X.ex\/X.s₀⁻¹<=b)/\b≠X.env.locals/\(∀x c,X.env.cells.lookup x=some c->c≠b)/\∀p∈X.pn++ah,p.1≠b) :
  Inv X ah σ H' { s with heap:=h',gens:=g',drawn:=d',toks:=t'}:=by
 obtain⟨m,⟨o,es,ep,ho,r⟩,_⟩:=id I.loc;obtain⟨sl,hL⟩:=u.any ho I.free λz=>(hch _ z).2.1 rfl
 exact I.step (ch:=ch) hch (λb o hL hb hc e n=>u.keep b o e n (λz=>(d6.mp (I.wJ b z)).elim hL hb) hc) (λb o _ _ hc e n=>u.any e n hc) (λb o hc e n=>u.free b o e n hc) (λb o hc e=>u.there b o e hc) u.tups u.jQ u.jR (λm' hm=>by
  obtain⟨o',es',Jz,ho',r'⟩:=hm;rw[ho]at ho';cases ho';exact⟨_,es',Jz,hL,r'⟩) hok hg
theorem Inv.turned{t':Nat}{it:Addr}(I:Inv X ah σ H s)(k:∀b o,b≠it->s.heap.get? b=some o->h'.get? b=some o)(hn:H it=none)(hL:it≠X.env.locals)
  (h1:it∈X.ex\/X.s₀⁻¹<=it) (h2:∀x c,X.env.cells.lookup x=some c->c≠it) (h3:∀p∈X.pn++ah,p.1≠it):Inv X ah σ H { s with heap:=h',toks:=t'}:=by
 have nit:∀b u,H b=some u->b≠it:=λb u e z=>by rw[z,hn]at e;cases e
 refine I.step (g':=s.gens) (d':=s.drawn) (ch:=[it]) (λb hb=>?_) (λb o _ _ hc e _=>k b o (λz=>hc (by simp[z])) e) (λb o _ _ hc e _=>⟨o.slots,k b o (λz=>hc (by simp[z])) e⟩) (λ_ _ _ _ n=>n)
  (λb o hc e=>⟨o,k b o (λz=>hc (by simp[z])) e⟩) (λ_ _ e=>e) (λ_ _ _ e=>e) (λb ps e=>⟨#[],by rw[e];simp⟩) (λm hm=>?_) (λb u e=>?_) I.bare
 .
  have e:b=it:=by simpa using hb
  subst e;exact⟨h1,hL,h2,h3⟩
 . obtain⟨o,es,ep,ho,r⟩:=hm;exact⟨o,es,ep,k _ o (mP hL) ho,r⟩
 .
  refine (I.hok b u e).stay (λc v hc q=>k c v ?_ q) (λ_ q=>q) λ_ _ q=>q
  rcases hc with z |z
  . rw[z];exact nit b u e
  . exact nit c _ z
theorem Inv.tok(I:Inv X ah σ H s)(t:Nat):Inv X ah σ H { s with toks:=t}:=I.un (h':=s.heap) (t':=t) Un.refl I.hok
theorem Inv.kept{t':Nat}(I:Inv X ah σ H s)(k:∀b u,s.heap.get? b=some u->h'.get? b=some u):Inv X ah σ H { s with heap:=h',toks:=t'}:=I.un (Un.kept k) (I.hok.kept k)
theorem Inv.laid{a:Addr}{o:HO}{t':Nat}(I:Inv X ah σ H s)(k:∀b u,s.heap.get? b=some u->h'.get? b=some u)(hp:s⁻¹<=a)(new:cY X.prog X.w (upd H a o) h' a o) :
  Inv X ah σ (upd H a o) { s with heap:=h',toks:=t'}:=I.un (Un.laid k hp (I.hok.fresh hp)) (I.hok.laid k hp new)
theorem Inv.write(I:Inv X ah σ H s)(mu:Ze (H x))(he:e=x\/H e=some (.own x))(k:∀b u,b≠e->s.heap.get? b=some u->h'.get? b=some u)(U9:∃u,h'.get? e=some u)
  (new:cY X.prog X.w (upd H x o) h' x o):Inv X ah σ (upd H x o) { s with heap:=h',toks:=t'}:=I.un (Un.write mu he k U9) (I.hok.write mu he k U9 new)
theorem Inv.yO(I:Inv X ah σ H s)(h:∀p∈VR,s.heap.get? p.1=some p.2/\H p.1=none/\p.1≠X.env.locals/\p.1∉X.fs/\∀v,p.2.data≠.cell v):Inv X VR σ H s:=
 ⟨I.ok,I.os,I.bare,I.base,I.loc,I.cell,I.free,I.dP,λp hp=>(AB.mp hp).elim (λz=>I.pin p (AA _ z)) (h p),I.hok,I.len⟩
theorem nU{N:List Str}(hN:N.Nodup){i j:Nat}{x:Str}(a:N[i]?=some x)(b:N[j]?=some x):i=j:=by obtain⟨h1,e1⟩:=b0.mp a;obtain⟨h2,e2⟩:=b0.mp b;exact (List.getElem_inj hN).mp (e1.trans e2.symm)
theorem kP{M:Model}{A:Around}{E:Value->Shared->Prop}{i:Nat}{x:Str}{v:V}{u:Value}{Q:Unit->Shared->Prop}(I:Inv X ah σ H s)(hN:X.N.Nodup)(hi:X.N[i]?=some x)(hx:Loc X.env.scope x)(r:RelV v u)
  (h:∀s',Inv X ah (σ.set i (some v)) H s'->(∃a,Heap.SameBut a s.heap s'.heap/\(a=X.env.locals\/X.env.cells.lookup x=some a))->Q () s') (hf:X.fn x=true\/X.env.scope.names.lookup x=some .local:=by first |exact .inl rfl |exact .inr rfl |assumption):wpAny M A (storeName X.env x u) Q E s:=by
 obtain⟨m,hn,hl⟩:=id I.loc;have hcls:(X.env.scope.kind==.class||(X.env.scope.kind==.module&&X.env.locals != X.env.globals))=false:=by rw[I.ok.kind];rfl
 have V0:i<σ.length:=by rw[I.len];exact (b0.mp hi).1
 have Pj:=I.Pj;have tracked:∀{a:Addr}{h':Heap},(∃o,s.heap.get? a=some o/\H a=none)->Heap.SameBut a s.heap h'->kO X.prog X.w H h':=λ{a h'} ha hs b ob e=>by
  obtain⟨_,_,hfree⟩:=ha;refine (I.hok b ob e).stay (λc w' hc q=>(hs.2 c ?_).trans q) (λ_ q=>q) λ_ _ q=>q
  rintro rfl;rcases hc with rfl |hc
  . rw[hfree]at e;cases e
  . rw[hfree]at hc;cases hc
 rcases hx with hk |hk
 .
  refine wpAny_storeName_local hk hn (λh' hn' hs=>?_) hcls
  obtain⟨oL,_,_,Zi,_⟩:=id hn;refine h _ ⟨I.ok,I.os,I.bare,⟨λb o e n hb hx=>?_,λb o e n hb hx=>?_,I.base.free,λb o e hx=>?_,I.base.tups,I.base.jQ,I.base.jR⟩,⟨_,hn',λj y v' e1 e2 e3=>?_⟩,λy c e=>?_,I.free,I.dP,λp hp=>?_,tracked ⟨oL,Zi,I.free⟩ hs,by simpa using I.len⟩ ⟨_,hs,.inl rfl⟩
  . exact (hs.2 b (l4 (eD (eP e) I.ok.above))).trans (I.base.keep b o e n hb hx)
  . obtain⟨sl,e1⟩:=I.base.slot b o e n hb hx;exact⟨sl,(hs.2 b (l4 (eD (eP e) I.ok.above))).trans e1⟩
  . obtain⟨o',e1⟩:=I.base.there b o e hx;exact⟨o',(hs.2 b (l4 (eD (eP e) I.ok.above))).trans e1⟩
  .
   by_cases hj:j=i
   . subst hj;rw[hi]at e1;cases e1;rw[fI V0]at e2;cases e2;exact⟨u,r,.inl ⟨hk,by simp⟩⟩
   .
    rw[eM (mP hj)]at e2;obtain⟨u',r',q⟩:=hl j y v' e1 e2 e3;refine⟨u',r',?_⟩;rcases q with ⟨k,e⟩ |⟨k,c,e,z⟩
    .
     refine .inl ⟨k,?_⟩;have:y≠x:=λe=>hj (nU hN e1 (e▸hi))
     simp[this,e]
    . exact .inr ⟨k,c,e,z.sameBut hs (Pj y c e)⟩
  . obtain⟨w',z⟩:=I.cell y c e;exact⟨w',z.sameBut hs (Pj y c e)⟩
  . obtain⟨e,n,ne,nf,d⟩:=I.pin p hp;exact⟨(hs.2 p.1 ne).trans e,n,ne,nf,d⟩
 .
  have hfn:X.fn x=true:=by
   rcases hf with z |z
   . exact z
   . rw[z]at hk;cases hk
  obtain⟨c,hc⟩:=I.ok.has x (.inl hk);obtain⟨w',z⟩:=I.cell x c hc;refine wpAny_storeName_cell I.ok.kind hk hc z (λh' hc' hs=>?_)
  obtain⟨oc,hoc,aag⟩:=id z;refine h { s with heap:=h'} ⟨I.ok,I.os,I.bare,⟨λb o e n hb hx=>?_,λb o e n hb hx=>?_,I.base.free,λb o e hx=>?_,I.base.tups,I.base.jQ,I.base.jR⟩,⟨m,hn.sameBut hs (mP (Pj x c hc)),λj y v' e1 e2 e3=>?_⟩,λy c' e=>?_,I.free,I.dP,λp hp=>?_,tracked ⟨oc,hoc,I.dP x c hc⟩ hs,by simpa using I.len⟩ ⟨c,hs,.inr hc⟩
  . exact (hs.2 b (l4 (eD (eP e) (I.ok.Ph x c hfn hc)))).trans (I.base.keep b o e n hb hx)
  . obtain⟨sl,e1⟩:=I.base.slot b o e n hb hx;exact⟨sl,(hs.2 b (l4 (eD (eP e) (I.ok.Ph x c hfn hc)))).trans e1⟩
  . obtain⟨o',e1⟩:=I.base.there b o e hx;exact⟨o',(hs.2 b (l4 (eD (eP e) (I.ok.Ph x c hfn hc)))).trans e1⟩
  .
   by_cases hj:j=i
   . subst hj;rw[hi]at e1;cases e1;rw[fI V0]at e2;cases e2;exact⟨u,r,.inr ⟨.inl hk,c,hc,hc'⟩⟩
   .
    rw[eM (mP hj)]at e2;obtain⟨u',r',q⟩:=hl j y v' e1 e2 e3;refine⟨u',r',?_⟩;rcases q with q |⟨k,c',e,z'⟩
    . exact .inl q
    . refine .inr ⟨k,c',e,z'.sameBut hs ?_⟩;rintro rfl;exact hj (nU hN e1 (I.ok.inj _ _ _ e hc▸hi))
  .
   by_cases hcc:c'=c
   . subst hcc;exact⟨_,hc'⟩
   . obtain⟨w2,z2⟩:=I.cell y c' e;exact⟨w2,z2.sameBut hs hcc⟩
  . obtain⟨e,n,ne,nf,d⟩:=I.pin p hp;refine⟨(hs.2 p.1 ?_).trans e,n,ne,nf,d⟩;intro q;rw[q,hoc]at e;have q':oc=p.2:=oQ e;exact d w' (by rw[<- q'];exact aag)
theorem nW{M:Model}{A:Around}{E:Value->Shared->Prop}{i:Nat}{x:Str}{v:V}{u:Value}{Q:Unit->Shared->Prop}(I:Inv X ah σ H s)(hN:X.N.Nodup)(hi:X.N[i]?=some x)(hx:Loc X.env.scope x)(r:RelV v u)
  (h:∀s',Inv X ah (σ.set i (some v)) H s'->Q () s') (hf:X.fn x=true\/X.env.scope.names.lookup x=some .local:=by first |exact .inl rfl |exact .inr rfl |assumption):wpAny M A (storeName X.env x u) Q E s:=
 kP I hN hi hx r (λs' I' _=>h s' I') hf
theorem Inv.call'(I:Inv X ah σ H s)(ho:s'.os=s.os)(u:Un (frs X.stack) ch H H' s.heap s'.heap)(hok:kO X.prog X.w H' s'.heap)(hg:AllBare s'.gens)
  (hch:∀b∈ch,(b∈X.ex\/X.s₀⁻¹<=b)/\b≠X.env.locals/\(∀x c,X.env.cells.lookup x=some c->c≠b)/\∀p∈X.pn++ah,p.1≠b):Inv X ah σ H' s':=by
 obtain⟨h',g',d',t',o'⟩:=s';have e:o'=s.os:=ho;subst e;exact I.call (g':=g') (t':=t') (d':=d') u hok hg hch
end
abbrev XK:=Value->Option Addr->Hp->Prop
abbrev St:=List (Option V)
abbrev VK:=V->Hp->Prop
abbrev TE:=St->Hp->VK->Prop
abbrev TT:=St->Hp->(Bool->Hp->Prop)->Prop
abbrev TA:=St->Hp->(List V->Hp->Prop)->Prop
structure Ends where
 nx:St->Hp->Prop
 rt:VK
 bk:St->Hp->Prop:=λ_ _=>False
 ct:St->Hp->Prop:=λ_ _=>False
abbrev TS:=Ends->St->Hp->Prop
def EP(X:Cx)(ah:List (Addr×Obj))(σ:St)(Q:VK)(u:Value)(s':Shared):Prop:=∃v H',Inv X ah σ H' s'/\RelV v u/\Q v H'
def TP(X:Cx)(ah:List (Addr×Obj))(σ:St)(Q:Bool->Hp->Prop)(b:Bool)(s':Shared):Prop:=∃H',Inv X ah σ H' s'/\Q b H'
def AP(X:Cx)(ah:List (Addr×Obj))(σ:St)(Q:List V->Hp->Prop)(us:List Value)(s':Shared):Prop:=∃vs H',Inv X ah σ H' s'/\Vals vs us/\Q vs H'
def SP(X:Cx)(ah:List (Addr×Obj))(D:Ends)(f:Flow)(s':Shared):Prop:=
 match f with
 |.next=>∃σ' H',Inv X ah σ' H' s'/\D.nx σ' H'
 |.brk=>∃σ' H',Inv X ah σ' H' s'/\D.bk σ' H'
 |.cont=>∃σ' H',Inv X ah σ' H' s'/\D.ct σ' H'
 |.ret u=>∃v σ' H',Inv X ah σ' H' s'/\RelV v u/\D.rt v H'
def PE(X:Cx)(e:Expr)(t:TE):Prop:=
 ∀(ah:List (Addr×Obj)) (s:Shared) (σ:St) (H:Hp) (Q:VK),Inv X ah σ H s->t σ H Q->wpAny (model X.prog X.w) X.A (eval e X.env) (EP X ah σ Q) X.xe s
def PT(X:Cx)(e:Expr)(t:TT):Prop:=
 ∀(ah:List (Addr×Obj)) (s:Shared) (σ:St) (H:Hp) (Q:Bool->Hp->Prop),Inv X ah σ H s->t σ H Q->wpAny (model X.prog X.w) X.A (isTrue e X.env (eval e X.env)) (TP X ah σ Q) X.xe s
def PW(X:Cx)(e:Expr)(t:TT):Prop:=
 ∀(whole:Sem Value) (ah:List (Addr×Obj)) (s:Shared) (σ:St) (H:Hp) (Q:Bool->Hp->Prop),Inv X ah σ H s->t σ H Q->wpAny (model X.prog X.w) X.A (isTrue e X.env whole) (TP X ah σ Q) X.xe s
theorem PW.pt{X:Cx}{e:Expr}{t:TT}(h:PW X e t):PT X e t:=h _
def PA(X:Cx)(es:List Expr)(t:TA):Prop:=
 ∀(pos:Pos) (ah:List (Addr×Obj)) (s:Shared) (σ:St) (H:Hp) (Q:List V->Hp->Prop),Inv X ah σ H s->t σ H Q->wpAny (model X.prog X.w) X.A (spliced (backTo pos (starEach es X.env))) (AP X ah σ Q) X.xe s
def PS(X:Cx)(st:Stmt)(t:TS):Prop:=
 ∀(ah:List (Addr×Obj)) (s:Shared) (σ:St) (H:Hp) (D:Ends),Inv X ah σ H s->t D σ H->wpAny (model X.prog X.w) X.A (exec st X.env) (SP X ah D) X.xe s
def se(X:Cx)(st:List Stmt)(t:TS):Prop:=
 ∀(ah:List (Addr×Obj)) (s:Shared) (σ:St) (H:Hp) (D:Ends),Inv X ah σ H s->t D σ H->wpAny (model X.prog X.w) X.A (execs st X.env) (SP X ah D) X.xe s
theorem bL{α:Type}{t:Sem α}{Q Q':α->Shared->Prop}{M:Model}{A:Around}{E:Value->Shared->Prop}{s:Shared}(h:wpAny M A t Q E s)(hQ:∀a s,Q a s->Q' a s):wpAny M A t Q' E s:=l5 h hQ λ_ _ x=>x
section
variable{X:Cx}
theorem bin{a b:Expr}{ta tb:TE}(ha:PE X a ta)(hb:PE X b tb){ah:List (Addr×Obj)}{s:Shared}{σ:St}{H:Hp}{R:V->V->Hp->Prop}(I:Inv X ah σ H s)(h:ta σ H λx H1=>tb σ H1 λy H2=>R x y H2)
  {α:Type}{Q:α->Shared->Prop}{f:Value->Value->Sem α}
  (hf:∀v u s2 x y H2,Inv X ah σ H2 s2->RelV x v->RelV y u->R x y H2->wpAny (model X.prog X.w) X.A (f v u) Q X.xe s2) :
  wpAny (model X.prog X.w) X.A (eval a X.env) (λv s₁=>wpAny (model X.prog X.w) X.A (eval b X.env) (λu s₂=>wpAny (model X.prog X.w) X.A (f v u) Q X.xe s₂) X.xe s₁) X.xe s:=by
 refine bL (ha ah s σ H _ I h) λv s1 ⟨x,H1,I1,r1,q1⟩=>?_
 refine bL (hb ah s1 σ H1 _ I1 q1) λu s2 ⟨y,H2,I2,r2,q2⟩=>?_
 exact hf v u s2 x y H2 I2 r1 r2 q2
def Pn(i:Nat):TE:=λσ H Q=>∃v,σ[i]?=some (some v)/\Q v H
def tC(v:V):TE:=λ_ H Q=>Q v H
theorem bM(hN:X.N[i]?=some x)(hv:gR X.env.scope x)(hd:(x==("__debug__":Str))=false:=by decide)(bE:(x==("__classdict__":Str))=false:=by decide):PE X (.Name x pos) (Pn i):=by
 intro ah s σ H Q I h;obtain⟨v,e,h⟩:=h;obtain⟨m,hn,hl⟩:=I.loc;obtain⟨u,r,l⟩:=hl i x v hN e hv;have fin:EP X ah σ Q u s:=⟨v,H,I,r,h⟩;rcases l with ⟨hk,hm⟩ |⟨hk,c,hc,hcell⟩
 . exact CL (wpAny_loadName_local I.ok.kind hk hn hm fin) hd
 .
  rcases hk with hk |hk
  . exact CL (wpAny_loadName_cell I.ok.kind hk hc hcell fin) hd
  . exact CL (wpAny_loadName_free I.ok.kind hk hc hcell fin bE) hd
theorem DN{i j pos}:PE X (.Constant (.int i) j pos) (tC (.int i)):=λ_ _ _ H _ I h=>wpAny_Constant_int ⟨.int i,H,I.tok _,⟨_,rfl⟩,h⟩
theorem V1{b j pos}:PE X (.Constant (.bool b) j pos) (tC (.bl b)):=λ_ _ _ H _ I h=>Constant_bool ⟨.bl b,H,I,rfl,h⟩
theorem DP{j pos}:PE X (.Constant .none j pos) (tC .non):=λ_ _ _ H _ I h=>Constant_none ⟨.non,H,I,rfl,h⟩
theorem Pp{x j pos}:PE X (.Constant (.str x) j pos) (tC (.str x)):=λ_ _ _ H _ I h=>Calls.Constant_str ⟨.str x,H,I.tok _,⟨_,rfl⟩,h⟩
def Gl(X:Cx)(x:Str):Prop:=X.env.kindOf x=some .globalImplicit
theorem fB{E:Value->Shared->Prop}{ah:List (Addr×Obj)}{s:Shared}{σ:St}{H:Hp}{x:Str}{u:Value}{pos:Pos}{Q:Value->Shared->Prop}(I:Inv X ah σ H s)(hg:Gl X x)(hm:X.mg x=some u)(h:Q u s)
  (hd:(x==("__debug__":Str))=false:=by decide):wpAny (model X.prog X.w) X.A (eval (.Name x pos) X.env) Q E s:=
 Calls.Name_function_global I.ok.kind hg (Calls.loadGlobal_global (by rw[I.ok.glob];exact I.mod.glob.keeps I.bk) hm h) hd
theorem fK{E:Value->Shared->Prop}{ah:List (Addr×Obj)}{s:Shared}{σ:St}{H:Hp}{x:Str}{u:Value}{pos:Pos}{Q:Value->Shared->Prop}(I:Inv X ah σ H s)(hg:Gl X x)(hm:X.mg x=none)(hv:bootBuiltins x=some u)(h:Q u s)
  (hn:x≠ "__name__" :=by decide) (hd:(x==("__debug__":Str))=false:=by decide):wpAny (model X.prog X.w) X.A (eval (.Name x pos) X.env) Q E s:=by
 obtain⟨mb,h1,h2⟩:=I.mod.blt;exact Calls.Name_function_global I.ok.kind hg (Calls.loadGlobal_builtin (by rw[I.ok.glob];exact I.mod.glob.keeps I.bk) hm (by rw[I.ok.blt];exact h1.keeps I.bk) ((h2 x hn).trans hv) h) hd
theorem yP(hg:Gl X x)(hm:X.mg x=some u)(r:RelV v u)(hd:(x==("__debug__":Str))=false:=by decide):PE X (.Name x pos) (tC v):=
 λ_ _ _ H _ I h=>fB I hg hm ⟨v,H,I,r,h⟩ hd
theorem sf(hg:Gl X x)(hm:X.mg x=none)(hv:bootBuiltins x=some u)(r:RelV v u)(hn:x≠ "__name__" :=by decide)(hd:(x==("__debug__":Str))=false:=by decide):PE X (.Name x pos) (tC v):=
 λ_ _ _ H _ I h=>fK I hg hm hv ⟨v,H,I,r,h⟩ hn hd
variable{a b:Expr}{ta tb:TE}{pos:Pos}
def tB(t:TE):TT:=λσ H Q=>t σ H λx H1=>∃c,x=.bl c/\Q c H1
theorem Pq{e:Expr}{t:TE}(h:PE X e t)(he:∀whole,isTrue e X.env whole=(do let v <- whole;standAt e.pos;holding [v] (truthy v)):=by intro _;rfl):PT X e (tB t):=by
 intro ah s σ H Q I hw;refine isTrue_plain (bL (h ah s σ H _ I hw) λv s1 ⟨x,H1,I1,r1,q1⟩=>?_) (he _)
 obtain⟨d,rfl,q⟩:=q1;cases r1;exact nS ⟨H1,I1,q⟩
variable{tA Zj:TT}{rest:List Expr}
noncomputable def aah(t u:TT):TT:=λσ H Q=>t σ H λc H1=>if c=true then u σ H1 Q else Q false H1
noncomputable def tOr(t u:TT):TT:=λσ H Q=>t σ H λc H1=>if c=true then Q true H1 else u σ H1 Q
def aai(t:TT):TT:=λσ H Q=>t σ H λc H1=>Q (!c) H1
theorem pw_and1(ha:PT X a tA):PW X (.BoolOp .And [a] pos) tA:=by
 intro wh ah s σ H Q I h;refine isTrue_and (bL (ha ah s σ H Q I h) λc s1 e=>?_)
 cases c with
 |true=>exact isTrue_and_nil e
 |false=>exact e
theorem pw_or1(ha:PT X a tA):PW X (.BoolOp .Or [a] pos) tA:=by
 intro wh ah s σ H Q I h;refine isTrue_or (bL (ha ah s σ H Q I h) λc s1 e=>?_)
 cases c with
 |false=>exact isTrue_or_nil e
 |true=>exact e
theorem pw_and(ha:PT X a tA)(hb:PW X (.BoolOp .And (b::rest) pos) Zj):PW X (.BoolOp .And (a::b::rest) pos) (aah tA Zj):=by
 intro wh ah s σ H Q I h;refine isTrue_and (bL (ha ah s σ H _ I h) λc s1 ⟨H1,I1,q1⟩=>?_)
 cases c with
 |true=>exact hb wh ah s1 σ H1 Q I1 q1
 |false=>exact⟨H1,I1,q1⟩
theorem pw_or(ha:PT X a tA)(hb:PW X (.BoolOp .Or (b::rest) pos) Zj):PW X (.BoolOp .Or (a::b::rest) pos) (tOr tA Zj):=by
 intro wh ah s σ H Q I h;refine isTrue_or (bL (ha ah s σ H _ I h) λc s1 ⟨H1,I1,q1⟩=>?_)
 cases c with
 |true=>exact⟨H1,I1,q1⟩
 |false=>exact hb wh ah s1 σ H1 Q I1 q1
theorem DQ(ha:PT X a tA):PT X (.UnaryOp .Not a pos) (aai tA):=by intro ah s σ H Q I h;exact isTrue_not (ha ah s σ H (λc H1=>Q (!c) H1) I h)
noncomputable def V2(ta tb:TE):TE:=λσ H Q=>ta σ H λx H1=>∃c,x=.bl c/\if c=true then tb σ H1 Q else Q (.bl false) H1
noncomputable def aaj(ta tb:TE):TE:=λσ H Q=>ta σ H λx H1=>∃c,x=.bl c/\if c=true then Q (.bl true) H1 else tb σ H1 Q
def V3(ta:TE):TE:=λσ H Q=>ta σ H λx H1=>∃c,x=.bl c/\Q (.bl (!c)) H1
theorem Pu{op}(h:PE X a t):PE X (.BoolOp op [a] pos) t:=λah s σ H Q I hw=>BoolOp_one (h ah s σ H Q I hw)
theorem DR(ha:PE X a ta)(hb:PE X (.BoolOp .And (b::rest) pos) tb):PE X (.BoolOp .And (a::b::rest) pos) (V2 ta tb):=by
 intro ah s σ H Q I h;refine BoolOp_and (bL (ha ah s σ H _ I h) λv s1 ⟨x,H1,I1,r1,q1⟩=>?_)
 obtain⟨c,rfl,q1⟩:=q1;cases r1;refine nS ?_;cases c with
 |true=>exact hb ah s1 σ H1 Q I1 q1
 |false=>exact⟨.bl false,H1,I1,rfl,q1⟩
theorem NT(ha:PE X a ta)(hb:PE X (.BoolOp .Or (b::rest) pos) tb):PE X (.BoolOp .Or (a::b::rest) pos) (aaj ta tb):=by
 intro ah s σ H Q I h;refine BoolOp_or (bL (ha ah s σ H _ I h) λv s1 ⟨x,H1,I1,r1,q1⟩=>?_)
 obtain⟨c,rfl,q1⟩:=q1;cases r1;refine nS ?_;cases c with
 |false=>exact hb ah s1 σ H1 Q I1 q1
 |true=>exact⟨.bl true,H1,I1,rfl,q1⟩
theorem Pw(ha:PE X a ta):PE X (.UnaryOp .Not a pos) (V3 ta):=by
 intro ah s σ H Q I h;refine UnaryOp_ (bL (ha ah s σ H _ I h) λv s1 ⟨x,H1,I1,r1,q1⟩=>?_)
 obtain⟨c,rfl,q1⟩:=q1;cases r1;exact not_of (nS ⟨.bl (!c),H1,I1,rfl,q1⟩)
noncomputable def tIf(t:TT)(ta tb:TE):TE:=λσ H Q=>t σ H λc H1=>if c=true then ta σ H1 Q else tb σ H1 Q
theorem uG{c:Expr}(hc:PT X c tA)(ha:PE X a ta)(hb:PE X b tb):PE X (.IfExp c a b pos) (tIf tA ta tb):=by
 intro ah s σ H Q I h;refine wpAny_IfExp (bL (hc ah s σ H _ I h) λd s1 ⟨H1,I1,q1⟩=>?_)
 cases d with
 |true=>exact ha ah s1 σ H1 Q I1 q1
 |false=>exact hb ah s1 σ H1 Q I1 q1
end
def bZ(K:Frag)(H:Hp)(a:Addr)(xs:List V):Prop:=
 Rd H a (.lst xs)\/
  ∃(o:Obj) (its:Array Value) (n:Nat),K.lookup a=some o/\o.cls=.type "list" /\o.dict=none/\o.data=.seq its n/\its.size<=sizeLine/\Vals xs its.toList
def g7(K:Frag)(H:Hp)(a:Addr)(xs:List V):Prop:=
 Rd H a (.tup xs)\/
  ∃(o:Obj) (its:Array Value) (n:Nat),K.lookup a=some o/\o.cls=.type "tuple" /\o.data=.seq its n/\its.size<=sizeLine/\Vals xs its.toList
noncomputable def aak:Value->Option V
 |.none=>some .non
 |.bool b=>some (.bl b)
 |.int i _=>some (.int i)
 |.str x _=>some (.str x)
 |.bytes b _=>some (.Pa b)
 |.float b _=>some (.flt b)
 |.ref a=>some (.ref a)
 |.type n=>some (.ty n)
 |_=>none
theorem RelV.abs(r:RelV x u):aak u=some x:=by
 cases x with
 |non=>cases r;rfl
 |bl _=>cases r;rfl
 |int _=>obtain⟨t,rfl⟩:=r;rfl
 |str _=>obtain⟨t,rfl⟩:=r;rfl
 |Pa _=>obtain⟨t,rfl⟩:=r;rfl
 |flt _=>obtain⟨t,rfl⟩:=r;rfl
 |ref _=>cases r;rfl
 |ty _=>cases r;rfl
theorem RelV.inj{x y:V}{u:Value}(r:RelV x u)(q:RelV y u):x=y:=oQ (r.abs.symm.trans q.abs)
theorem Vals.inj:∀{xs ys:List V}{us:List Value},Vals xs us->Vals ys us->xs=ys
 |_,_,_,.nil,.nil=>rfl
 |_,_,_,.cons r t,.cons r' t'=>by rw[r.inj r',Vals.inj t t']
section
variable{X:Cx}{ah:List (Addr×Obj)}{σ:St}{H:Hp}{s:Shared}{a:Addr}{xs ys:List V}
theorem bZ.of{K:Frag}(h:H a=some (.lst xs)):bZ K H a xs:=.inl (.inl h)
theorem Inv.list(I:Inv X ah σ H s)(h:bZ X.K H a xs):∃its:List Value,Vals xs its/\PlainL s.heap a its.toArray/\xs.length<=sizeLine:=by
 rcases h with h |⟨o,its,n,hk,hc,hd,hs,hz,r⟩
 . obtain⟨z,its,n,r,e⟩:=h.ok I.hok;exact⟨its,r,⟨_,n,e,rfl,rfl,rfl⟩,z⟩
 .
  refine⟨its.toList,r,⟨o,n,I.nB a o hk,hc,hd,by simpa using hs⟩,?_⟩
  have e:=r.length;simp only[nE]at e;lia
theorem Inv.tuple(I:Inv X ah σ H s)(h:g7 X.K H a xs):∃its:List Value,Vals xs its/\IsTup s.heap a its.toArray/\xs.length<=sizeLine:=by
 rcases h with h |⟨o,its,n,hk,hc,hs,hz,r⟩
 . obtain⟨z,its,r,p⟩:=h.ok I.hok;exact⟨its,r,p.tup,z⟩
 .
  refine⟨its.toList,r,⟨o,I.nB a o hk,hc,n,by simpa using hs⟩,?_⟩
  have e:=r.length;simp only[nE]at e;lia
theorem Inv.uH(I:Inv X ah σ H s)(h:bZ X.K H a xs)(h':bZ X.K H a ys):xs=ys:=by
 obtain⟨its,r,⟨o,n,e,_,_,d⟩,_⟩:=I.list h;obtain⟨its',r',⟨o',n',e',_,_,d'⟩,_⟩:=I.list h';rw[e]at e';cases e';rw[d]at d';injection d' with d1 _;have:its=its':=by simpa using congrArg Array.toList d1
 subst this;exact r.inj r'
theorem Inv.qR(I:Inv X ah σ H s)(h:g7 X.K H a xs)(h':g7 X.K H a ys):xs=ys:=by
 obtain⟨its,r,⟨o,e,_,n,d⟩,_⟩:=I.tuple h;obtain⟨its',r',⟨o',e',_,n',d'⟩,_⟩:=I.tuple h';rw[e]at e';cases e';rw[d]at d';injection d' with d1 _;have:its=its':=by simpa using congrArg Array.toList d1
 subst this;exact r.inj r'
end
abbrev Cx.wish(X:Cx)(E:Value->Shared->Prop):Cx:={ X with xe:=E}
abbrev Cx.mh(X:Cx):Cx:=X.wish λ_ _=>False
theorem Cx.Ok.wish{X:Cx}(ok:X.Ok)(E:Value->Shared->Prop):(X.wish E).Ok:=
 ⟨ok.mod,ok.kind,ok.glob,ok.blt,ok.above,ok.inj,ok.has,ok.Ph,ok.hd,ok.frames,ok.stk,ok.Va,ok.bs,ok.DK,ok.uF,ok.wI,ok.jS,ok.Jy⟩
theorem Cx.Ok.cM{X:Cx}{E:Value->Shared->Prop}(ok:(X.wish E).Ok):X.Ok:=
 ⟨ok.mod,ok.kind,ok.glob,ok.blt,ok.above,ok.inj,ok.has,ok.Ph,ok.hd,ok.frames,ok.stk,ok.Va,ok.bs,ok.DK,ok.uF,ok.wI,ok.jS,ok.Jy⟩
section
variable{X:Cx}{ah:List (Addr×Obj)}{σ:St}{H:Hp}{s:Shared}{E:Value->Shared->Prop}
theorem Inv.wish(I:Inv X ah σ H s)(E:Value->Shared->Prop):Inv (X.wish E) ah σ H s:=⟨I.ok.wish E,I.os,I.bare,I.base,I.loc,I.cell,I.free,I.dP,I.pin,I.hok,I.len⟩
theorem Inv.cM(I:Inv (X.wish E) ah σ H s):Inv X ah σ H s:=⟨I.ok.cM,I.os,I.bare,I.base,I.loc,I.cell,I.free,I.dP,I.pin,I.hok,I.len⟩
theorem SP.cM(h:SP (X.wish E) ah D f s'):SP X ah D f s':=by
 cases f with
 |next=>obtain⟨σ',H',I,q⟩:=h;exact⟨σ',H',I.cM,q⟩
 |brk=>obtain⟨σ',H',I,q⟩:=h;exact⟨σ',H',I.cM,q⟩
 |cont=>obtain⟨σ',H',I,q⟩:=h;exact⟨σ',H',I.cM,q⟩
 |ret u=>obtain⟨v,σ',H',I,r,q⟩:=h;exact⟨v,σ',H',I.cM,r,q⟩
theorem PE.mh(h:PE X.mh e t):PE X e t:=λah s σ H Q I hw=>
 l5 (h ah s σ H Q (I.wish _) hw) (λ_ _ ⟨v,H',I',r,q⟩=>⟨v,H',I'.cM,r,q⟩) λ_ _ z=>False.elim z
theorem PT.mh(h:PT X.mh e t):PT X e t:=λah s σ H Q I hw=>
 l5 (h ah s σ H Q (I.wish _) hw) (λ_ _ ⟨H',I',q⟩=>⟨H',I'.cM,q⟩) λ_ _ z=>False.elim z
theorem se.mh{st:List Stmt}{t:TS}(h:se X.mh st t):se X st t:=λah s σ H D I hw=>
 l5 (h ah s σ H D (I.wish _) hw) (λ_ _ q=>q.cM) λ_ _ z=>False.elim z
end
section
variable{X:Cx}{st:Stmt}{rest:List Stmt}{t u:TS}{e:Expr}{te:TE}{pos:Pos}
def V4:TS:=λD σ H=>D.nx σ H
def V5(t u:TS):TS:=λD σ H=>t { D with nx:=u D} σ H
theorem JB:se X [] V4:=λ_ _ σ H _ I h=>wpAny_execs_nil ⟨σ,H,I,h⟩
theorem dQ(h1:PS X st t)(h2:se X rest u):se X (st::rest) (V5 t u):=by
 intro ah s σ H D I h;refine AY (bL (h1 ah s σ H { D with nx:=u D} I h) λf s1 q=>?_)
 cases f with
 |next=>obtain⟨σ',H',I',q⟩:=q;exact h2 ah s1 σ' H' D I' q
 |ret v=>exact q
 |brk=>exact q
 |cont=>exact q
theorem yQ(h1:PS X st t):se X [st] t:=by
 intro ah s σ H D I h;refine AY (bL (h1 ah s σ H D I h) λf s1 q=>?_)
 cases f with
 |next=>exact wpAny_execs_nil q
 |ret v=>exact q
 |brk=>exact q
 |cont=>exact q
theorem Inv.quiet{ah:List (Addr×Obj)}{σ:St}{H:Hp}{s:Shared}(I:Inv X ah σ H s):interactive X.env=false:=by simp[interactive,I.ok.kind]
def V6(te:TE):TS:=λD σ H=>te σ H λ_ H1=>D.nx σ H1
theorem nD(he:PE X e te)(hs:swapsWith e none pos.line X.env=pure false:=by rfl):PS X (.Expr e pos) (V6 te):=by intro ah s σ H D I h;exact wpAny_Expr_any (bL (he ah s σ H _ I h) λv s1 ⟨x,H1,I1,r1,q1⟩=>⟨σ,H1,I1,q1⟩) I.quiet hs
def aal(te:TE):TS:=λD σ H=>te σ H D.rt
theorem sr(he:PE X e te):PS X (.Return (some e) pos) (aal te):=by intro ah s σ H D I h;exact wpAny_Return_some (bL (he ah s σ H _ I h) λv s1 ⟨x,H1,I1,r1,q1⟩=>⟨x,σ,H1,I1,r1,q1⟩)
noncomputable def aam(c:TT)(t u:TS):TS:=λD σ H=>c σ H λb H1=>if b=true then t D σ H1 else u D σ H1
theorem nX{c:Expr}{a b:List Stmt}{tc:TT}(hc:PT X c tc)(ha:se X a t)(hb:se X b u):PS X (.If c a b pos) (aam tc t u):=by
 intro ah s σ H D I h;refine wpAny_If (bL (hc ah s σ H _ I h) λd s1 ⟨H1,I1,q1⟩=>?_)
 cases d with
 |true=>exact ha ah s1 σ H1 D I1 q1
 |false=>exact hb ah s1 σ H1 D I1 q1
def Px:TS:=λ_ _ _=>False
theorem bu:se X jP Px:=λ_ _ _ _ _ _ h=>h.elim
end
abbrev TG:=V->St->Hp->(St->Hp->Prop)->Prop
abbrev NX:=List V->St->Hp->(St->Hp->Prop)->Prop
def PG(X:Cx)(target:Expr)(t:TG):Prop:=
 ∀(ah:List (Addr×Obj)) (s:Shared) (σ:St) (H:Hp) (v:V) (u:Value) (Q:St->Hp->Prop),Inv X ah σ H s->RelV v u->t v σ H Q->
  wpAny (model X.prog X.w) X.A (assign target X.env u) (λ_ s'=>∃σ' H',Inv X ah σ' H' s'/\Q σ' H') X.xe s
def Vb(X:Cx)(ts:List Expr)(t:NX):Prop:=
 ∀(ah:List (Addr×Obj)) (s:Shared) (σ:St) (H:Hp) (vs:List V) (us:List Value) (Q:St->Hp->Prop),Inv X ah σ H s->Vals vs us->t vs σ H Q->
  wpAny (model X.prog X.w) X.A (assignInOrder ((assignEach ts X.env).map (·.2)) us) (λ_ s'=>∃σ' H',Inv X ah σ' H' s'/\Q σ' H') X.xe s
abbrev Py:=V->V->V->Hp->(Hp->Prop)->Prop
def V7(X:Cx)(t:Py):Prop:=
 ∀(ah:List (Addr×Obj)) (s:Shared) (σ:St) (H:Hp) (o i v:V) (ov iv u:Value) (Q:Hp->Prop),Inv X ah σ H s->RelV o ov->RelV i iv->RelV v u->t o i v H Q->
  wpAny (model X.prog X.w) X.A (setItem ov iv u) (λ_ s'=>∃H',Inv X ah σ H' s'/\Q H') X.xe s
section
variable{X:Cx}{pos:Pos}
def qT(i:Nat):TG:=λv σ H Q=>Q (σ.set i (some v)) H
theorem iQ(hN:X.N.Nodup)(hi:X.N[i]?=some x)(hx:Loc X.env.scope x)(hf:X.fn x=true\/X.env.scope.names.lookup x=some .local:=by first |exact .inl rfl |exact .inr rfl |assumption):PG X (.Name x pos) (qT i):=by intro ah s σ H v u Q I r h;exact wpAny_assign_Name (nW I hN hi hx r (λs' I'=>⟨_,H,I',h⟩) hf)
def aan:NX:=λvs σ H Q=>vs=[]/\Q σ H
noncomputable def V8(t:TG)(u:NX):NX:=λvs σ H Q=>∃v r,vs=v::r/\t v σ H λσ' H'=>u r σ' H' Q
theorem su:Vb X [] aan:=by intro ah s σ H vs us Q I r h;obtain⟨e,h⟩:=h;subst e;cases r;exact assignInOrder_nil ⟨σ,H,I,h⟩
theorem g8{e:Expr}{es:List Expr}{t:TG}{u:NX}(h1:PG X e t)(h2:Vb X es u)
  (hs:(assignEach (e::es) X.env).map (·.2)=assign e X.env::(assignEach es X.env).map (·.2):=by rfl):Vb X (e::es) (V8 t u):=by
 intro ah s σ H vs us Q I r h;obtain⟨v,vr,e1,h⟩:=h;subst e1;cases r with
 |cons r rr=>
  rw[hs];refine assignInOrder_cons (bL (h1 ah s σ H _ _ _ I r h) λ_ s1 ⟨σ1,H1,I1,q1⟩=>?_)
  exact h2 ah s1 σ1 H1 _ _ Q I1 rr q1
def aao(K:Frag)(n:Nat)(t:NX):TG:=λv σ H Q=>∃a xs,v=.ref a/\g7 K H a xs/\xs.length=n/\t xs σ H Q
theorem wK(hc:X.calm=true)(h:Vb X es t)
  (hn:(assignEach es X.env).length=n:=by rfl) (bY:(assignEach es X.env).findIdx? (·.1)=none:=by rfl):PG X (.Tuple es k pos) (aao X.K n t):=by
 intro ah s σ H v u Q I r hw;obtain⟨a,xs,e1,hq,hl,hw⟩:=hw;subst e1;cases r;obtain⟨its,rv,ht,hz⟩:=I.tuple hq;refine assign_Tuple_tuple (I.ok.hd hc) ht (by simp[hn,<- hl,rv.length]) bY λh' hx=>?_
 have I1:Inv X ah σ H { s with heap:=h'}:=I.kept (t':=s.toks) λb o e=>hx b o (l4 (eP e)) e
 exact h ah _ σ H xs _ Q I1 (by simpa using rv) hw
noncomputable def aap(to ti:TE)(t:Py):TG:=λv σ H Q=>to σ H λo H1=>ti σ H1 λi H2=>t o i v H2 λH3=>Q σ H3
theorem wL{o i:Expr}{to ti:TE}{t:Py}(ho:PE X o to)(hi:PE X i ti)(hs:V7 X t)
  (ha:∀v,assign (.Subscript o i pos) X.env v=(do
   let ov <- holding [v] (eval o X.env)
   let iv <- holding [v,ov] (eval i X.env)
   standAt pos
   holding [v,ov,iv] (setItem ov iv v)
   release [v,ov,iv] []):=by intro _;rfl):PG X (.Subscript o i pos) (aap to ti t):=by
 intro ah s σ H v u Q I r h;rw[ha];refine aS (mM (bL (ho ah s σ H _ I h) λov s1 ⟨x,H1,I1,r1,q1⟩=>?_))
 refine aS (mM (bL (hi ah s1 σ H1 _ I1 q1) λiv s2 ⟨y,H2,I2,r2,q2⟩=>?_))
 refine aS (AG (aS (mM (bL (hs ah s2 σ H2 x y v ov iv u _ I2 r1 r2 r q2) λ_ s3 ⟨H3,I3,q3⟩=>?_))))
 exact wpAny_release ⟨σ,H3,I3,q3⟩
def JC(te:TE)(g:TG):TS:=λD σ H=>te σ H λx H1=>g x σ H1 D.nx
theorem wM{tg e:Expr}{te:TE}{g:TG}(he:PE X e te)(hg:PG X tg g)(hs:swapsWithSole [tg] e pos.line X.env=pure false:=by rfl)(hw:swappedStores [tg] e X.env=pure none:=by rfl)
  (h1:(assignEach [tg] X.env).map (·.2)=[assign tg X.env]:=by rfl):PS X (.Assign [tg] e pos) (JC te g):=by
 intro ah s σ H D I h;refine wpAny_Assign_stores (bL (he ah s σ H _ I h) λv s1 ⟨x,H1,I1,r1,q1⟩=>?_) hs hw
 rw[h1];exact bL (hg ah s1 σ H1 x v _ I1 r1 q1) λ_ s2 q=>q
theorem nY{i:Nat}{x:Str}{e:Expr}{te:TE}{pos':Pos}(hN:X.N.Nodup)(hi:X.N[i]?=some x)(hx:Loc X.env.scope x)(he:PE X e te)(hs:swapsWith e (some (.Name x pos')) pos.line X.env=pure false:=by rfl)(hf:X.fn x=true\/X.env.scope.names.lookup x=some .local:=by first |exact .inl rfl |exact .inr rfl |assumption) :
  PS X (.Assign [.Name x pos'] e pos) (JC te (qT i)):=by
 intro ah s σ H D I h;refine wpAny_Assign_Name (bL (he ah s σ H _ I h) λv s1 ⟨y,H1,I1,r1,q1⟩=>?_) hs
 exact nW I1 hN hi hx r1 (λs2 I2=>⟨_,H1,I2,q1⟩) hf
end
section
variable{X:Cx}{pos:Pos}
noncomputable def Pz(c:TT)(tb:TS):TS:=λD σ H=>∃W:Nat->St->Hp->Prop,(∃m,W m σ H)/\∀m σ H,W m σ H->
 c σ H λb H1=>if b=true then ∃N:St->Hp->Prop,(∀σ' H',N σ' H'->∃m',m'<m/\W m' σ' H')/\tb { D with nx:=N,ct:=N,bk:=D.nx} σ H1 else D.nx σ H1
theorem DS{c:Expr}{body:List Stmt}{tc:TT}{tb:TS}(hp:PassesOwn (model X.prog X.w) X.A X.env X.xe)(hc:PT X c tc)(hb:se X body tb):PS X (.While c body [] pos) (Pz tc tb):=by
 intro ah s σ H D I h;obtain⟨W,⟨m0,w0⟩,turn⟩:=h;refine wpAny_While (codeAny_whileLoop (λn s'=>∃σ' H',Inv X ah σ' H' s'/\W n σ' H') ?_ m0 ⟨σ,H,I,w0⟩)
 rintro n s1 ⟨σ1,H1,I1,w1⟩;refine AC hp (bL (hc ah s1 σ1 H1 _ I1 (turn n σ1 H1 w1)) λb s2 ⟨H2,I2,q2⟩=>?_)
 cases b with
 |true=>
  obtain⟨N,hN,q2⟩:=q2;rw[fN rfl];refine AC hp (bL (hb ah s2 σ1 H2 _ I2 q2) λf s3 q3=>?_)
  cases f with
  |next=>obtain⟨σ3,H3,I3,n3⟩:=q3;obtain⟨m',hm,w3⟩:=hN σ3 H3 n3;exact⟨m',hm,σ3,H3,I3,w3⟩
  |cont=>obtain⟨σ3,H3,I3,n3⟩:=q3;obtain⟨m',hm,w3⟩:=hN σ3 H3 n3;exact⟨m',hm,σ3,H3,I3,w3⟩
  |brk=>exact q3
  |ret v=>exact q3
 |false=>rw[gN lL];exact wpAny_execs_nil ⟨σ1,H2,I2,q2⟩
end
structure It where
 go:Nat->Hp->Prop
 V9:Nat->Hp->V->Hp->Prop
 stop:Nat->Hp->Prop
def jT(X:Cx)(ah:List (Addr×Obj))(H:Hp)(b:Addr):Prop:=
 H b=none/\b≠X.env.locals/\b∉X.fs/\(b∈X.ex\/X.s₀⁻¹<=b)/\(∀x c,X.env.cells.lookup x=some c->c≠b)/\∀p∈X.pn++ah,p.1≠b
theorem Inv.uI{X:Cx}{ah:List (Addr×Obj)}{σ:St}{H H':Hp}{s:Shared}{b:Addr}(I:Inv X ah σ H s)(hb:s⁻¹<=b)(hn:H' b=none):jT X ah H' b:=by
 refine⟨hn,y6 (eD I.lt hb),I.aaf hb,.inr (i5 I.sz hb),λx c e z=>?_,λp hp z=>?_⟩
 . obtain⟨v,q⟩:=I.cell x c e;exact absurd (eD q.lt (by rw[z];exact hb)) (oD _)
 . exact absurd (eD (eP (I.pin p hp).1) (by rw[z];exact hb)) (oD _)
structure Turn(P:Program)(w:World)(K:Frag)(tg:Expr)(J:It)(fp:List Addr)(it:Addr)(tn:Nat->Heap->Prop):Prop where
 mem:it∈fp
 obj:∀i h,tn i h->∀b∈fp,∃o,h.get? b=some o/\∀v,o.data≠.cell v
 keep:∀i h h',tn i h->(∀b∈fp,∀o,h.get? b=some o->h'.get? b=some o)->tn i h'
 item:∀(X:Cx),X.prog=P->X.w=w->X.K=K->X.calm=true->∀(i:Nat) (ah:List (Addr×Obj)) (s:Shared) (σ:St) (H:Hp) (E:Value->Shared->Prop),Inv X ah σ H s->(∀b∈fp,jT X ah H b)->tn i s.heap->J.go i H->
  wpAny (model P w) X.A (pyNext (.ref it)) (λr s1=>∃u,r=some u/\
   wpAny (model P w) X.A (letOwnedTupleGo tg (.ref it) u) (λ_ s2=>∃x H',Inv X ah σ H' s2/\RelV x u/\J.V9 i H x H'/\tn (i+1) s2.heap/\∀b∈fp,H' b=none) E s1) E s
 done:∀(X:Cx),X.prog=P->X.w=w->X.K=K->X.calm=true->∀(i:Nat) (ah:List (Addr×Obj)) (s:Shared) (σ:St) (H:Hp) (E:Value->Shared->Prop),Inv X ah σ H s->(∀b∈fp,jT X ah H b)->tn i s.heap->J.stop i H->
  wpAny (model P w) X.A (pyNext (.ref it)) (λr s1=>r=none/\Inv X ah σ H s1) E s
 self:∀(A:Around) (i:Nat) (s:Shared) (Q:Value->Shared->Prop) (E:Value->Shared->Prop),tn i s.heap->Q (.ref it) s->wpAny (model P w) A (pyIter (.ref it)) Q E s
abbrev TI:=St->Hp->(It->Hp->Prop)->Prop
def PIE(X:Cx)(ah:List (Addr×Obj))(σ:St)(tg:Expr)(R:It->Hp->Prop)(itv:Value)(s2:Shared):Prop:=
 ∃(it:Addr) (fp:List Addr) (tn:Nat->Heap->Prop) (J:It) (H':Hp),itv=.ref it/\Inv X ah σ H' s2/\Turn X.prog X.w X.K tg J fp it tn/\tn 0 s2.heap/\(∀b∈fp,jT X ah H' b)/\R J H'
def PI(X:Cx)(tg iter:Expr)(wi:TI):Prop:=
 ∀(ah:List (Addr×Obj)) (s:Shared) (σ:St) (H:Hp) (R:It->Hp->Prop),Inv X ah σ H s->wi σ H R->
  wpAny (model X.prog X.w) X.A (eval iter X.env) (λv s1=>wpAny (model X.prog X.w) X.A (pyIter v) (PIE X ah σ tg R) X.xe s1) X.xe s
theorem yR(ho:s.heap.get? it=some o)(hc:o.cls=.type n)(hd:o.data=.fields vs)
  (hn:["enumerate", "zip", "dict_itemiterator", "dict_reverseitemiterator", "odict_iterator", "itertools.zip_longest", "itertools.pairwise"].contains n=false) (hQ:Q () s):wpAny M A (letOwnedTupleGo tg (.ref it) u) Q E s:=by
 unfold letOwnedTupleGo;cases tg <;> first
  |exact dE hQ
  | (cases u <;> first
    |exact dE hQ
    | (refine aS (wpAny_load ho ?_)
       rw[hc,hd];show wpAny M A (if (["enumerate", "zip", "dict_itemiterator", "dict_reverseitemiterator", "odict_iterator", "itertools.zip_longest", "itertools.pairwise"].contains n&&vs[0]?==some (rawInt _))=true then _ else _) Q E s
       rw[gN (by intro h;rw[hn,Bool.false_and]at h;cases h)]
       exact dE hQ))
def Itl(K:Frag)(a:Addr):It:=
 ⟨λi H=>∃xs x,bZ K H a xs/\xs[i]?=some x,λi H x H'=>H'=H/\∀xs,bZ K H a xs->xs[i]?=some x,λi H=>∃xs,bZ K H a xs/\xs.length<=i⟩
def Itt(K:Frag)(a:Addr):It:=
 ⟨λi H=>∃xs x,g7 K H a xs/\xs[i]?=some x,λi H x H'=>H'=H/\∀xs,g7 K H a xs->xs[i]?=some x,λi H=>∃xs,g7 K H a xs/\xs.length<=i⟩
noncomputable def PB(lo:Int)(n:Nat):It:=⟨λi _=>i<n,λi H x H'=>H'=H/\x=.int (lo+i),λi _=>n<=i⟩
theorem Ag{P:Program}{w:World}{K:Frag}{tg:Expr}(a it:Addr):Turn P w K tg (Itl K a) [it] it (λi h=>h.IsListIter it a i) where
 mem:=by simp
 obj:=λi h st b hb=>by
  have e:b=it:=by simpa using hb
  subst e;obtain⟨o,e,c,d⟩:=st;exact⟨o,e,λv z=>by rw[d]at z;cases z⟩
 keep:=λi h h' st k=>st.at λo e=>k it ⋯ o e
 item:=by
  intro X hP hw hK hc i ah s σ H E I hf st hg;subst hP hw hK;obtain⟨xs,x,hq,hx⟩:=hg;obtain⟨its,rv,p,hz⟩:=I.list hq;obtain⟨u,hu,ru⟩:=rv.get hx;obtain⟨f0,f1,f2,f3,f4,f5⟩:=hf it ⋯;refine wpAny_pyNext_list_item st p.isList (x:=u) (by simpa using hu) λh' st' sb=>?_
  have I1:Inv X ah σ H { s with heap:=h'}:=I.turned (t':=s.toks) (λb o hb e=>(sb.2 b hb).trans e) f0 f1 f3 f4 f5
  obtain⟨o,e,c,d⟩:=id st';exact⟨u,rfl,yR (s:={ s with heap:=h'}) e c d ⋯ ⟨x,H,I1,ru,⟨rfl,λys hy=>by rw[I.uH hy hq];exact hx⟩,st',λb hb=>(hf b hb).1⟩⟩
 done:=by intro X hP hw hK hc i ah s σ H E I hf st hg;subst hP hw hK;obtain⟨xs,hq,hx⟩:=hg;obtain⟨its,rv,p,hz⟩:=I.list hq;obtain⟨f0,f1,f2,f3,f4,f5⟩:=hf it ⋯;have hl:=rv.length;exact wpAny_pyNext_list_end (I.ok.hd hc) st p.isList (by simp;lia) λh' eb=>⟨rfl,I.turned (t':=s.toks) (λb o hb e=>eb b o hb e) f0 f1 f3 f4 f5⟩
 self:=λ_ _ _ _ _ st h=>wpAny_pyIter_listiter st h
theorem wN{P:Program}{w:World}{K:Frag}{tg:Expr}(a it:Addr):Turn P w K tg (Itt K a) [it] it (λi h=>h.IsTupleIter it a i) where
 mem:=by simp
 obj:=λi h st b hb=>by
  have e:b=it:=by simpa using hb
  subst e;obtain⟨o,e,c,d⟩:=st;exact⟨o,e,λv z=>by rw[d]at z;cases z⟩
 keep:=λi h h' st k=>st.at λo e=>k it ⋯ o e
 item:=by
  intro X hP hw hK hc i ah s σ H E I hf st hg;subst hP hw hK;obtain⟨xs,x,hq,hx⟩:=hg;obtain⟨its,rv,p,hz⟩:=I.tuple hq;obtain⟨u,hu,ru⟩:=rv.get hx;obtain⟨f0,f1,f2,f3,f4,f5⟩:=hf it ⋯;refine wpAny_pyNext_tuple_item st (show s.heap.IsTuple a its.toArray from p) (x:=u) (by simpa using hu) λh' st' sb=>?_
  have I1:Inv X ah σ H { s with heap:=h'}:=I.turned (t':=s.toks) (λb o hb e=>(sb.2 b hb).trans e) f0 f1 f3 f4 f5
  obtain⟨o,e,c,d⟩:=id st';exact⟨u,rfl,yR (s:={ s with heap:=h'}) e c d ⋯ ⟨x,H,I1,ru,⟨rfl,λys hy=>by rw[I.qR hy hq];exact hx⟩,st',λb hb=>(hf b hb).1⟩⟩
 done:=by intro X hP hw hK hc i ah s σ H E I hf st hg;subst hP hw hK;obtain⟨xs,hq,hx⟩:=hg;obtain⟨its,rv,p,hz⟩:=I.tuple hq;obtain⟨f0,f1,f2,f3,f4,f5⟩:=hf it ⋯;have hl:=rv.length;exact wpAny_pyNext_tuple_end (I.ok.hd hc) st (show s.heap.IsTuple a its.toArray from p) (by simp;lia) λh' eb=>⟨rfl,I.turned (t':=s.toks) (λb o hb e=>eb b o hb e) f0 f1 f3 f4 f5⟩
 self:=λ_ _ _ _ _ st h=>wpAny_pyIter_tupleiter st h
theorem wO{P:Program}{w:World}{K:Frag}{tg:Expr}(it:Addr)(lo:Int)(n:Nat):Turn P w K tg (PB lo n) [it] it (λi h=>IsRangeIter h it (lo+(i:Nat) * 1) ((n:Int) - (i:Nat)) 1) where
 mem:=by simp
 obj:=λi h st b hb=>by
  have e:b=it:=by simpa using hb
  subst e;exact⟨_,st,λv z=>by
   have z':Data.fields _=Data.cell v:=z;cases z'⟩
 keep:=λi h h' st k=>k it ⋯ _ st
 item:=by
  intro X hP hw hK hc i ah s σ H E I hf st hg;subst hP hw hK;obtain⟨f0,f1,f2,f3,f4,f5⟩:=hf it ⋯;have W:=Walks.range (prog:=X.prog) (w:=X.w) (I.ok.hd hc) it lo 1 n;refine W.item i s _ _ hg st λv h' tk hv st' kk=>?_
  obtain⟨t,rfl⟩:=hv;have I1:Inv X ah σ H { s with heap:=h',toks:=tk}:=I.turned (λb o hb e=>kk b o (by simpa using hb) e) f0 f1 f3 f4 f5
  refine⟨_,rfl,yR (s:={ s with heap:=h',toks:=tk}) (n:= "range_iterator") st' rfl rfl ⋯ ⟨.int (lo+i),H,I1,⟨t,?_⟩,⟨rfl,rfl⟩,st',λb hb=>(hf b hb).1⟩⟩
  rw[Int.mul_one]
 done:=by intro X hP hw hK hc i ah s σ H E I hf st hg;subst hP hw hK;obtain⟨f0,f1,f2,f3,f4,f5⟩:=hf it ⋯;exact wpAny_pyNext_range_end (I.ok.hd hc) st (by have:n<=i:=hg;lia) λh' eb=>⟨rfl,I.turned (t':=s.toks) (λb o hb e=>eb b o hb e) f0 f1 f3 f4 f5⟩
 self:=λ_ _ _ _ _ st h=>wpAny_pyIter_rangeiter st h
section
variable{X:Cx}{tg:Expr}
def NZ(K:Frag)(tl:TE):TI:=λσ H R=>tl σ H λx H1=>∃a,x=.ref a/\(∃xs,bZ K H1 a xs)/\R (Itl K a) H1
def aaq(K:Frag)(tl:TE):TI:=λσ H R=>tl σ H λx H1=>∃a,x=.ref a/\(∃xs,g7 K H1 a xs)/\R (Itt K a) H1
theorem sy{l:Expr}{tl:TE}(hl:PE X l tl):PI X tg l (NZ X.K tl):=by
 intro ah s σ H R I h;refine bL (hl ah s σ H _ I h) λv s1 ⟨x,H1,I1,r1,q1⟩=>?_
 obtain⟨a,e,⟨xs,hq⟩,q⟩:=q1;subst e;cases r1;obtain⟨its,rv,p,hz⟩:=I1.list hq;refine wpAny_pyIter_list p.isList ?_;refine⟨s1⁻¹,[s1⁻¹],_,_,H1,rfl,I1.kept (t':=s1.toks) λb o e=>bP _ e,Ag a _,⟨_,eJ _ rfl,rfl,rfl⟩,λb hb=>?_,q⟩
 have e:b=s1⁻¹:=by simpa using hb
 subst e;exact I1.uI (dS _) (I1.hok.fresh (dS _))
theorem DT{l:Expr}{tl:TE}(hl:PE X l tl):PI X tg l (aaq X.K tl):=by
 intro ah s σ H R I h;refine bL (hl ah s σ H _ I h) λv s1 ⟨x,H1,I1,r1,q1⟩=>?_
 obtain⟨a,e,⟨xs,hq⟩,q⟩:=q1;subst e;cases r1;obtain⟨its,rv,p,hz⟩:=I1.tuple hq;refine AL (show s1.heap.IsTuple a its.toArray from p) ?_
 refine⟨s1⁻¹,[s1⁻¹],_,_,H1,rfl,I1.kept (t':=s1.toks) λb o e=>bP _ e,wN a _,⟨_,eJ _ rfl,rfl,rfl⟩,λb hb=>?_,q⟩
 have e:b=s1⁻¹:=by simpa using hb
 subst e;exact I1.uI (dS _) (I1.hok.fresh (dS _))
theorem uJ{ah:List (Addr×Obj)}{σ:St}{H:Hp}{s:Shared}{R:It->Hp->Prop}{E:Value->Shared->Prop}{lo hi:Int}{t u v:Tok}{tk:Nat}(I:Inv X ah σ H s)(h1 : -(2 ^ 62)<=lo)(h2:lo<2 ^ 62)(h3 : -(2 ^ 62)<=hi)(h4:hi<2 ^ 62)
  (q:R (PB lo (hi - lo).toNat) H):wpAny (model X.prog X.w) X.A (pyIter (.ref s⁻¹)) (PIE X ah σ tg R) E { s with heap:=s.heap.push { cls:=.type "range",data:=.fields #[.int lo t,.int hi u,.int 1 v]},toks:=tk}:=by
 refine wpAny_pyIter_range (IsRange.new ..) (small_one h1 h2 h3 h4) ?_;have I1:Inv X ah σ H { s with heap:=s.heap.push { cls:=.type "range",data:=.fields #[.int lo t,.int hi u,.int 1 v]},toks:=tk}:=I.kept λb o e=>bP _ e
 refine⟨(s.heap.push { cls:=.type "range",data:=.fields #[.int lo t,.int hi u,.int 1 v]}).objs.size,[(s.heap.push { cls:=.type "range",data:=.fields #[.int lo t,.int hi u,.int 1 v]}).objs.size],_,_,H,rfl,
  I1.kept (t':=tk) λb o e=>bP _ e,wO _ lo (hi - lo).toNat,?_,λb hb=>?_,q⟩
 .
  have e1:lo+((0:Nat):Int) * 1=lo:=by simp
  have e2:(((hi - lo).toNat:Nat):Int) - ((0:Nat):Int)=Builtin.Range.rangeSize lo hi 1:=by rw[rangeSize_one];split <;> lia
  show IsRangeIter _ _ (lo+((0:Nat):Int) * 1) ((((hi - lo).toNat:Nat):Int) - ((0:Nat):Int)) 1;rw[e1,e2];exact eJ _ rfl
 .
  have e:b=(s.heap.push { cls:=.type "range",data:=.fields #[.int lo t,.int hi u,.int 1 v]}).objs.size:=by simpa using hb
  subst e;exact I1.uI (dS _) (I1.hok.fresh (dS _))
def Wa(ta:TA):TI:=λσ H R=>ta σ H λvs H1=>∃j:Int,vs=[.int j]/\-(2 ^ 62)<=j/\j<2 ^ 62/\R (PB 0 j.toNat) H1
def Wc(ta:TA):TI:=λσ H R=>ta σ H λvs H1=>∃i j:Int,vs=[.int i,.int j]/\(-(2 ^ 62)<=i/\i<2 ^ 62/\-(2 ^ 62)<=j/\j<2 ^ 62)/\R (PB i (j - i).toNat) H1
theorem qU{a:Expr}{ta:TA}{p pos:Pos}(hg:Gl X "range")(hm:X.mg "range"=none)(ha:PA X [a] ta)(hs:starEach [a] X.env=[(false,eval a X.env)]:=by rfl):PI X tg (.Call (.Name "range" p) [a] [] pos) (Wa ta):=by
 intro ah s σ H R I h;refine Call_ (fK I hg hm boot_range (mE (bL (ha pos ah s σ H _ I h) λus s1 ⟨vs,H1,I1,r1,q1⟩=>?_) hs rfl))
 obtain⟨j,e,q1,q2,q⟩:=q1;subst e;cases r1 with
 |cons r rr=>cases rr;obtain⟨t,rfl⟩:=r;exact call_range_1 (uJ I1 ⋯ ⋯ q1 q2 (by simpa using q))
theorem Ah{a b:Expr}{ta:TA}{p pos:Pos}(hg:Gl X "range")(hm:X.mg "range"=none)(ha:PA X [a,b] ta)(hs:starEach [a,b] X.env=[(false,eval a X.env),(false,eval b X.env)]:=by rfl)(hs2:starEach [b] X.env=[(false,eval b X.env)]:=by rfl) :
  PI X tg (.Call (.Name "range" p) [a,b] [] pos) (Wc ta):=by
 intro ah s σ H R I h;refine Call_ (fK I hg hm boot_range (mE (bL (ha pos ah s σ H _ I h) λus s1 ⟨vs,H1,I1,r1,q1⟩=>?_) (by rw[hs,hs2]) (by rw[hs2];rfl)))
 obtain⟨i,j,e,⟨q1,q2,q3,q4⟩,q⟩:=q1;subst e;cases r1 with
 |cons r rr=>
  cases rr with
  |cons r' rr=>cases rr;obtain⟨t,rfl⟩:=r;obtain⟨t',rfl⟩:=r';exact call_range_2 (uJ I1 q1 q2 q3 q4 q)
noncomputable def aar(wi:TI)(g:TG)(tb:TS):TS:=λD σ H=>wi σ H λJ H1=>∃W:Nat->Nat->St->Hp->Prop,(∃m,W 0 m σ H1)/\∀i m σ H,W i m σ H->
 (J.stop i H/\D.nx σ H)\/(J.go i H/\∃N:St->Hp->Prop,(∀σ' H',N σ' H'->∃m',m'<m/\W (i+1) m' σ' H')/\∀x H',J.V9 i H x H'->g x σ H' λσ2 H2=>tb { D with nx:=N,ct:=N,bk:=D.nx} σ2 H2)
noncomputable def kU(fp:List Addr)(h:Heap):List (Addr×Obj):=fp.filterMap λb=>(h.get? b).map λo=>(b,o)
theorem dc{fp:List Addr}{h:Heap}{b:Addr}{o:Obj}(hb:b∈fp)(e:h.get? b=some o):(b,o)∈kU fp h:=BC.mpr ⟨b,hb,by rw[e];rfl⟩
theorem Ai(hp:p∈kU fp h):p.1∈fp/\h.get? p.1=some p.2:=by
 obtain⟨b,hb,e⟩:=BC.mp hp;cases q:h.get? b with
 |none=>rw[q]at e;cases e
 |some o=>rw[q]at e;have e':(b,o)=p:=oQ e;subst e';exact⟨hb,q⟩
theorem Inv.pinned{ah:List (Addr×Obj)}{σ:St}{H:Hp}{s:Shared}{fp:List Addr}(I:Inv X ah σ H s)(hf:∀b∈fp,jT X ah H b)(ho:∀b∈fp,∃o,s.heap.get? b=some o/\∀v,o.data≠.cell v):Inv X (ah++kU fp s.heap) σ H s:=
 I.yO λp hp=>(AB.mp hp).elim (λz=>I.pin p (i6 _ z)) λz=>by
  obtain⟨hb,e⟩:=Ai z;obtain⟨f0,f1,f2,_⟩:=hf p.1 hb;obtain⟨o,e',d⟩:=ho p.1 hb;rw[e]at e';cases e';exact⟨e,f0,f1,f2,d⟩
theorem Inv.g9{ah pl:List (Addr×Obj)}{σ:St}{H:Hp}{s:Shared}(I:Inv X (ah++pl) σ H s):Inv X ah σ H s:=I.yO λp hp=>I.pin p (i6 _ (AA _ hp))
theorem DW{iter:Expr}{body:List Stmt}{wi:TI}{g:TG}{tb:TS}{pos:Pos}(hp:PassesOwn (model X.prog X.w) X.A X.env X.xe)(hc:X.calm=true)(hi:PI X tg iter wi)(hg:PG X tg g)(hb:se X body tb)
  (hs:∀x,foldedSetIterable iter X.env x=pure x:=by intro _;rfl):PS X (.For tg iter body [] pos) (aar wi g tb):=by
 intro ah s σ H D I h;refine wpAny_For (bL (hi ah s σ H _ I h) λv s1 h1=>bL h1 λitv s2 h2=>?_) hs
 obtain⟨it,fp,tn,J,H2,e,I2,T,aK,f2,W,⟨m0,w0⟩,turn⟩:=h2;subst e;have stat:∀{H':Hp},(∀b∈fp,H' b=none)->∀b∈fp,jT X ah H' b:=λhn b hb=>⟨hn b hb,(f2 b hb).2⟩
 refine codeAny_forLoop_any (λn s'=>∃i σ' H',Inv X ah σ' H' s'/\tn i s'.heap/\(∀b∈fp,H' b=none)/\W i n σ' H') ?_ m0 ⟨0,σ,H2,I2,aK,λb hb=>(f2 b hb).1,w0⟩
 rintro n s3 ⟨i,σ3,H3,I3,dU,N1,w3⟩;rcases turn i n σ3 H3 w3 with ⟨stop,qn⟩ |⟨go,N,hN,step⟩
 .
  refine AC hp (bL (T.done X rfl rfl rfl hc i ah s3 σ3 H3 X.xe I3 (stat N1) dU stop) λr s4 ⟨hr,I4⟩=>?_)
  subst hr;exact wpAny_execs_nil ⟨σ3,H3,I4,qn⟩
 .
  refine AC hp (bL (T.item X rfl rfl rfl hc i ah s3 σ3 H3 X.xe I3 (stat N1) dU go) λr s4 ⟨u,hr,h4⟩=>?_)
  subst hr;refine AC hp (bL h4 λ_ s5 ⟨x,H5,I5,r5,y5,jU,Wd⟩=>?_)
  have Wf:=I5.pinned (stat Wd) (T.obj _ _ jU);refine AC hp (bL (hg _ s5 σ3 H5 x u _ Wf r5 (step x H5 y5)) λ_ s6 ⟨σ6,H6,I6,q6⟩=>?_)
  refine AC hp (bL (hb _ s6 σ6 H6 _ I6 q6) λf s7 q7=>?_)
  have again:∀{σ7:St}{H7:Hp},Inv X (ah++kU fp s5.heap) σ7 H7 s7->N σ7 H7->∃m,m<n/\∃i σ' H',Inv X ah σ' H' s7/\tn i s7.heap/\(∀b∈fp,H' b=none)/\W i m σ' H':=λ{σ7 H7} I7 n7=>by
   obtain⟨m',hm,w7⟩:=hN σ7 H7 n7;refine⟨m',hm,i+1,σ7,H7,I7.g9,T.keep _ _ _ jU λb hb o e=>(I7.pin (b,o) (i6 _ (i6 _ (dc hb e)))).1,λb hb=>?_,w7⟩
   obtain⟨o,e,d⟩:=T.obj _ _ jU b hb;exact (I7.pin (b,o) (i6 _ (i6 _ (dc hb e)))).2.1
  cases f with
  |next=>obtain⟨σ7,H7,I7,n7⟩:=q7;exact again I7 n7
  |cont=>obtain⟨σ7,H7,I7,n7⟩:=q7;exact again I7 n7
  |brk=>obtain⟨σ7,H7,I7,q7⟩:=q7;exact⟨σ7,H7,I7.g9,q7⟩
  |ret v=>obtain⟨x7,σ7,H7,I7,r7,q7⟩:=q7;exact⟨x7,σ7,H7,I7.g9,r7,q7⟩
end
abbrev R2:=V->V->Hp->VK->Prop
def mY(X:Cx)(f:Value->Value->Sem Value)(r:R2):Prop:=
 ∀(ah:List (Addr×Obj)) (s:Shared) (σ:St) (H:Hp) (x y:V) (v u:Value) (Q:VK),Inv X ah σ H s->RelV x v->RelV y u->r x y H Q->
  wpAny (model X.prog X.w) X.A (f v u) (EP X ah σ Q) X.xe s
def Zm(X:Cx)(f:Value->Sem Value)(r:V->Hp->VK->Prop):Prop:=
 ∀(ah:List (Addr×Obj)) (s:Shared) (σ:St) (H:Hp) (x:V) (v:Value) (Q:VK),Inv X ah σ H s->RelV x v->r x H Q->
  wpAny (model X.prog X.w) X.A (f v) (EP X ah σ Q) X.xe s
def fC(X:Cx)(f:Value)(r:List V->Hp->VK->Prop):Prop:=
 ∀(ah:List (Addr×Obj)) (s:Shared) (σ:St) (H:Hp) (xs:List V) (us:List Value) (Q:VK),Inv X ah σ H s->Vals xs us->r xs H Q->
  wpAny (model X.prog X.w) X.A (call f us) (EP X ah σ Q) X.xe s
def aas(X:Cx)(r:V->Hp->(Bool->Hp->Prop)->Prop):Prop:=
 ∀(ah:List (Addr×Obj)) (s:Shared) (σ:St) (H:Hp) (x:V) (v:Value) (Q:Bool->Hp->Prop),Inv X ah σ H s->RelV x v->r x H Q->
  wpAny (model X.prog X.w) X.A (truthy v) (TP X ah σ Q) X.xe s
noncomputable def Zn(r:R2)(ta tb:TE):TE:=λσ H Q=>ta σ H λx H1=>tb σ H1 λy H2=>r x y H2 Q
def tUn(r:V->Hp->VK->Prop)(ta:TE):TE:=λσ H Q=>ta σ H λx H1=>r x H1 Q
noncomputable def rI(C:Int->Int->Prop)(g:Int->Int->V):R2:=λx y H Q=>∃i j,x=.int i/\y=.int j/\C i j/\Q (g i j) H
noncomputable def Jj(g:Int->Int->V):R2:=λx y H Q=>∃i j,x=.int i/\y=.int j/\Q (g i j) H
def rU(g:Int->V):V->Hp->VK->Prop:=λx H Q=>∃i,x=.int i/\Q (g i) H
section
variable{X:Cx}{a b c:Expr}{ta tb tc:TE}{pos:Pos}
theorem PJ(ha:PE X a ta)(hb:PE X b tb){ah:List (Addr×Obj)}{s:Shared}{σ:St}{H:Hp}{R:V->V->Hp->Prop}(I:Inv X ah σ H s)
  (h:ta σ H λx H1=>tb σ H1 λy H2=>R x y H2) {Q:Value->Shared->Prop}{f:Value->Value->Sem Value}
  (hf:∀v u s2 x y H2,Inv X ah σ H2 s2->RelV x v->RelV y u->R x y H2->wpAny (model X.prog X.w) X.A (f v u) Q X.xe s2) :
  wpAny (model X.prog X.w) X.A (eval a X.env) (λv s₁=>wpAny (model X.prog X.w) X.A (eval b X.env) (λu s₂=>wpAny (model X.prog X.w) X.A (f v u) Q X.xe s₂) X.xe s₁) X.xe s:=by
 refine bL (ha ah s σ H _ I h) λv s1 ⟨x,H1,I1,r1,q1⟩=>?_
 refine bL (hb ah s1 σ H1 _ I1 q1) λu s2 ⟨y,H2,I2,r2,q2⟩=>?_
 exact hf v u s2 x y H2 I2 r1 r2 q2
theorem Wg{op:Operator}{r:R2}(ho:mY X (binaryOp op) r)(ha:PE X a ta)(hb:PE X b tb):PE X (.BinOp a op b pos) (Zn r ta tb):=by intro ah s σ H Q I h;exact wpAny_BinOp (PJ ha hb I h λv u s2 x y H2 I2 rx ry q=>ho ah s2 σ H2 x y v u Q I2 rx ry q)
theorem Wh{op:UnaryOp}{r:V->Hp->VK->Prop}(ho:Zm X (unaryOp op) r)(ha:PE X a ta):PE X (.UnaryOp op a pos) (tUn r ta):=by intro ah s σ H Q I h;exact UnaryOp_ (bL (ha ah s σ H _ I h) λv s1 ⟨x,H1,I1,r1,q1⟩=>ho ah s1 σ H1 x v Q I1 r1 q1)
theorem Zo{f:Value->Value->Sem Value}{C:Int->Int->Prop}{g:Int->Int->Int}
  (rule:∀(i j:Int) (t u:Tok) (s:Shared) (Q:Value->Shared->Prop) (E:Value->Shared->Prop),C i j->Q (.int (g i j) s.toks) { s with toks:=s.toks+1}->wpAny (model X.prog X.w) X.A (f (.int i t) (.int j u)) Q E s) :
  mY X f (rI C λi j=>.int (g i j)):=by
 intro ah s σ H x y v u Q I rx ry h;obtain⟨i,j,rfl,rfl,hc,q⟩:=h;obtain⟨t,rfl⟩:=rx;obtain⟨t',rfl⟩:=ry;exact rule i j t t' s _ _ hc ⟨.int (g i j),H,I.tok _,⟨_,rfl⟩,q⟩
theorem Wi{f:Value->Value->Sem Value}{g:Int->Int->Int}
  (rule:∀(i j:Int) (t u:Tok) (s:Shared) (Q:Value->Shared->Prop) (E:Value->Shared->Prop),Q (.int (g i j) s.toks) { s with toks:=s.toks+1}->wpAny (model X.prog X.w) X.A (f (.int i t) (.int j u)) Q E s) :
  mY X f (Jj λi j=>.int (g i j)):=by
 intro ah s σ H x y v u Q I rx ry h;obtain⟨i,j,rfl,rfl,q⟩:=h;obtain⟨t,rfl⟩:=rx;obtain⟨t',rfl⟩:=ry;exact rule i j t t' s _ _ ⟨.int (g i j),H,I.tok _,⟨_,rfl⟩,q⟩
theorem JD{f:Value->Value->Sem Value}{g:Int->Int->Bool}
  (rule:∀(i j:Int) (t u:Tok) (s:Shared) (Q:Value->Shared->Prop) (E:Value->Shared->Prop),Q (.bool (g i j)) s->wpAny (model X.prog X.w) X.A (f (.int i t) (.int j u)) Q E s) :
  mY X f (Jj λi j=>.bl (g i j)):=by
 intro ah s σ H x y v u Q I rx ry h;obtain⟨i,j,rfl,rfl,q⟩:=h;obtain⟨t,rfl⟩:=rx;obtain⟨t',rfl⟩:=ry;exact rule i j t t' s _ _ ⟨.bl (g i j),H,I,rfl,q⟩
def aat(i j:Int):Prop:=0<j/\j<1073741824
def aau(i j:Int):Prop:=0<=j/\j<=1000000/\i.natAbs<2 ^ 64
def PK(i j:Int):Prop:=(-(2 ^ 64)<i/\i<2 ^ 64)\/(-(2 ^ 64)<j/\j<2 ^ 64)
theorem PK.ok{i j:Int}(h:PK i j):IntMulOk i j:=by
 rcases h with ⟨h1,h2⟩ |⟨h1,h2⟩
 . exact .of_left (intBits_le_64 h1 h2)
 . exact .of_right (intBits_le_64 h1 h2)
theorem PL:mY X (binaryOp .Add) (Jj λi j=>.int (i+j)):=Wi λ_ _ _ _ _ _ _ q=>add_int q
theorem PN:mY X (binaryOp .Sub) (Jj λi j=>.int (i - j)):=Wi λ_ _ _ _ _ _ _ q=>sub_int q
theorem PX:mY X (binaryOp .Mult) (rI PK λi j=>.int (i * j)):=Zo λ_ _ _ _ _ _ _ hc q=>mul_int q hc.ok
theorem JF:mY X (binaryOp .FloorDiv) (rI aat λi j=>.int (i / j)):=Zo λi j _ _ _ _ _ hc q=>by
 have h1:(0:Int)<j:=hc.1;have h2:j<1073741824:=hc.2;exact floordiv_int ⋯ (by rw[Int.fdiv_eq_ediv_of_nonneg i ⋯];exact q) (.inl (PyProof.noPylong_small ⋯))
theorem P0:mY X (binaryOp .Mod) (rI (λ_ j=>0<j) λi j=>.int (i % j)):=Zo λi j _ _ _ _ _ hc q=>by
 have h1:(0:Int)<j:=hc;exact mod_int' ⋯ (by rw[Int.fmod_eq_emod_of_nonneg i ⋯];exact q)
theorem sA:mY X (binaryOp .Pow) (rI aau λi j=>.int (i ^ j.toNat)):=Zo λ_ _ _ _ _ _ _ hc q=>pow_int_small hc.1 hc.2.1 hc.2.2 q
theorem unI{f:Value->Sem Value}{g:Int->Int}
  (rule:∀(i:Int) (t:Tok) (s:Shared) (Q:Value->Shared->Prop) (E:Value->Shared->Prop),Q (.int (g i) s.toks) { s with toks:=s.toks+1}->wpAny (model X.prog X.w) X.A (f (.int i t)) Q E s) :
  Zm X f (rU λi=>.int (g i)):=by
 intro ah s σ H x v Q I rx h;obtain⟨i,rfl,q⟩:=h;obtain⟨t,rfl⟩:=rx;exact rule i t s _ _ ⟨.int (g i),H,I.tok _,⟨_,rfl⟩,q⟩
theorem P1:Zm X (unaryOp .USub) (rU λi=>.int (-i)):=unI λ_ _ _ _ _ q=>neg_int q
end
section
variable{X:Cx}{a b c:Expr}{ta tb tc:TE}{pos:Pos}
theorem Wj:mY X (compareOp .Lt) (Jj λi j=>.bl (decide (i<j))):=JD λ_ _ _ _ _ _ _ q=>lt_int q
theorem Wk:mY X (compareOp .LtE) (Jj λi j=>.bl (decide (i<=j))):=JD λ_ _ _ _ _ _ _ q=>le_int q
theorem Wm:mY X (compareOp .Gt) (Jj λi j=>.bl (decide (j<i))):=JD λ_ _ _ _ _ _ _ q=>gt_int q
theorem Wn:mY X (compareOp .GtE) (Jj λi j=>.bl (decide (j<=i))):=JD λ_ _ _ _ _ _ _ q=>ge_int q
theorem yS{op:CmpOp}{r:R2}(ho:mY X (compareOp op) r)(ha:PE X a ta)(hb:PE X b tb)(hm:behindInMarks op b=false):PE X (.Compare a [op] [b] pos) (Zn r ta tb):=by intro ah s σ H Q I h;exact wpAny_Compare1 (PJ ha hb I h λv u s2 x y H2 I2 rx ry q=>ho ah s2 σ H2 x y v u Q I2 rx ry q) hm
def Wo(t:TE):TT:=λσ H Q=>t σ H λx H'=>∃k,x=.bl k/\Q k H'
theorem sC{op:CmpOp}{r:R2}(ho:mY X (compareOp op) r)(ha:PE X a ta)(hb:PE X b tb)(hm:behindInMarks op b=false):PT X (.Compare a [op] [b] pos) (Wo (Zn r ta tb)):=by
 intro ah s σ H Q I h;refine wpAny_isTrue_Compare1 (bL (ha ah s σ H _ I h) λv s1 ⟨x,H1,I1,r1,q1⟩=>bL (hb ah s1 σ H1 _ I1 q1) λu s2 ⟨y,H2,I2,r2,q2⟩=>
  bL (ho ah s2 σ H2 x y v u _ I2 r1 r2 q2) λc s3 ⟨z,H3,I3,r3,k,e,q3⟩=>?_) hm
 subst e;cases r3;exact nS ⟨H3,I3,q3⟩
def Wq(K:Frag)(x:V)(H:Hp)(k:Bool):Prop:=
 match x with
 |.non=>k=false
 |.bl b=>k=b
 |.int i=>k=(i != 0)
 |.str y=>y.length<=sizeLine/\k=((y.length:Int) != 0)
 |.Pa y=>y.size<=sizeLine/\k=((y.size:Int) != 0)
 |.ref p=>(∃xs,bZ K H p xs/\k=!xs.isEmpty)\/(∃xs,g7 K H p xs/\k=!xs.isEmpty)\/∃ju,H p=some (.dK ju)/\k=!ju.isEmpty
 |_=>False
theorem wQ{κ:Type}{ju:List (κ×V)}{vs:List (κ×Value)}(r:KV ju vs):(!vs.isEmpty)=!ju.isEmpty:=by cases r <;> rfl
theorem nZ{xs:List V}{its:List Value}(r:Vals xs its):(!its.toArray.isEmpty)=!xs.isEmpty:=by cases r <;> simp
theorem n5:(sizeLine:Nat)<2 ^ 63:=by rw[nK];decide
theorem P4:aas X (λx H Q=>∃k,Wq X.K x H k/\Q k H):=by
 intro ah s σ H x v Q I rx h;obtain⟨k,e,q⟩:=h;have hl:=n5;have hs:sizeLine=16777216:=nK;cases x with
 |non=>cases rx;have e':k=false:=e;subst e';exact truthy_none ⟨H,I,q⟩
 |bl b=>cases rx;have e':k=b:=e;subst e';exact nS ⟨H,I,q⟩
 |int i=>obtain⟨t,rfl⟩:=rx;have e':k=(i != 0):=e;subst e';exact PySem.P.truthy_int ⟨H,I,q⟩
 |str y=>obtain⟨t,rfl⟩:=rx;obtain⟨hy,e'⟩:y.length<=sizeLine/\k=((y.length:Int) != 0):=e;subst e';exact PySem.P.truthy_str ⋯ ⟨H,I.tok _,q⟩
 |Pa y=>obtain⟨t,rfl⟩:=rx;obtain⟨hy,e'⟩:y.size<=sizeLine/\k=((y.size:Int) != 0):=e;subst e';exact PySem.W.truthy_bytes ⋯ ⟨H,I.tok _,q⟩
 |ref p=>
  cases rx;have e':(∃xs,bZ X.K H p xs/\k=!xs.isEmpty)\/(∃xs,g7 X.K H p xs/\k=!xs.isEmpty)\/∃ju,H p=some (.dK ju)/\k=!ju.isEmpty:=e;rcases e' with ⟨xs,hx,e'⟩ |⟨xs,hx,e'⟩ |⟨ju,hx,e'⟩
  . subst e';obtain⟨its,r,pl,hz⟩:=I.list hx;have aL:=r.length;exact wpAny_truthy_list pl.isList (by simp only[dC];lia) ⟨H,I.tok _,by rw[nZ r];exact q⟩
  . subst e';obtain⟨its,r,pl,hz⟩:=I.tuple hx;have aL:=r.length;exact truthy_tuple pl (by simp only[dC];lia) ⟨H,I.tok _,by rw[nZ r];exact q⟩
  . subst e';obtain⟨hz,hS,vs,r,m⟩:ju.length<=sizeLine/\(p==sysModules)=false/\∃vs,KV ju vs/\s.heap.DictOf (rY X.prog X.w) p vs:=I.hok p _ hx;have aL:ju.length=vs.length:=Paired.length r;exact wpAny_truthy_dict hS m ⋯ ⟨H,I.tok _,by rw[wQ r];exact q⟩
 |_=>exact (show False from e).elim
theorem DX(ha:PE X a ta)(he:∀whole,isTrue a X.env whole=(do let v <- whole;standAt a.pos;holding [v] (truthy v))) :
  PT X a (λσ H Q=>ta σ H λx H'=>∃k,Wq X.K x H' k/\Q k H'):=by
 intro ah s σ H Q I h;exact isTrue_plain (bL (ha ah s σ H _ I h) λv s1 ⟨x,H1,I1,r1,q1⟩=>P4 ah s1 σ H1 x v Q I1 r1 q1) (he _)
theorem vals1(r:Vals [x] us):∃u,us=[u]/\RelV x u:=by
 cases r with
 |cons r1 r2=>cases r2;exact⟨_,rfl,r1⟩
theorem vals2(r:Vals [x,y] us):∃u w',us=[u,w']/\RelV x u/\RelV y w':=by
 cases r with
 |cons r1 r2=>
  cases r2 with
  |cons r3 r4=>cases r4;exact⟨_,_,rfl,r1,r3⟩
theorem Aj(hc:X.calm=true):fC X (.builtin "max") (λxs H Q=>∃i j,xs=[.int i,.int j]/\Q (.int (if j > i then j else i)) H):=by
 intro ah s σ H xs us Q I r h;obtain⟨i,j,rfl,q⟩:=h;obtain⟨u,w',rfl,⟨t,rfl⟩,⟨t',rfl⟩⟩:=vals2 r;refine max_two_ints (I.ok.hd hc) λh' tk k=>⟨_,H,I.kept k,?_,q⟩
 by_cases hj:j > i
 . rw[fN hj,fN hj];exact⟨_,rfl⟩
 . rw[gN hj,gN hj];exact⟨_,rfl⟩
theorem Ak(hc:X.calm=true):fC X (.builtin "min") (λxs H Q=>∃i j,xs=[.int i,.int j]/\Q (.int (if j<i then j else i)) H):=by
 intro ah s σ H xs us Q I r h;obtain⟨i,j,rfl,q⟩:=h;obtain⟨u,w',rfl,⟨t,rfl⟩,⟨t',rfl⟩⟩:=vals2 r;refine min_two_ints (I.ok.hd hc) λh' tk k=>⟨_,H,I.kept k,?_,q⟩
 by_cases hj:j<i
 . rw[fN hj,fN hj];exact⟨_,rfl⟩
 . rw[gN hj,gN hj];exact⟨_,rfl⟩
def aav(K:Frag)(x:V)(H:Hp)(n:Nat):Prop:=
 match x with
 |.str y=>y.length<=sizeLine/\n=y.length
 |.Pa y=>y.size<=sizeLine/\n=y.size
 |.ref p=>(∃xs,bZ K H p xs/\n=xs.length)\/∃xs,g7 K H p xs/\n=xs.length
 |_=>False
theorem DY:fC X (.builtin "len") (λxs H Q=>∃x n,xs=[x]/\aav X.K x H n/\Q (.int n) H):=by
 intro ah s σ H xs us Q I r h;obtain⟨x,n,rfl,e,q⟩:=h;obtain⟨u,rfl,rx⟩:=vals1 r;have hl:=n5;have hs:sizeLine=16777216:=nK;cases x with
 |str y=>obtain⟨t,rfl⟩:=rx;obtain⟨hy,e'⟩:y.length<=sizeLine/\n=y.length:=e;subst e';exact len_str ⋯ ⟨.int _,H,I.tok _,⟨_,rfl⟩,q⟩
 |Pa y=>obtain⟨t,rfl⟩:=rx;obtain⟨hy,e'⟩:y.size<=sizeLine/\n=y.size:=e;subst e';exact PySem.W.len_bytes ⋯ ⟨.int _,H,I.tok _,⟨_,rfl⟩,q⟩
 |ref p=>
  cases rx;have e':(∃xs,bZ X.K H p xs/\n=xs.length)\/∃xs,g7 X.K H p xs/\n=xs.length:=e;rcases e' with ⟨xs,hx,e'⟩ |⟨xs,hx,e'⟩
  . subst e';obtain⟨its,r',pl,hz⟩:=I.list hx;have aL:=r'.length;exact Calls.call_len_list pl.isList (by simp only[dC];lia) ⟨.int xs.length,H,I.tok _,⟨_,by simp only[dC];rw[aL]⟩,q⟩
  . subst e';obtain⟨its,r',pl,hz⟩:=I.tuple hx;have aL:=r'.length;exact len_tuple pl (by simp only[dC];lia) ⟨.int xs.length,H,I.tok _,⟨_,by simp only[dC];rw[aL]⟩,q⟩
 |_=>exact (show False from e).elim
end
structure cD(k:Nat)(A:Around):Prop where
 hd:A.handled=none
 dp:A.depth+3 * k+5<recursionLimit
 un:A.units+16 * k+200<cLine
theorem cD.mono{j k:Nat}{A:Around}(r:cD k A)(h:j<=k):cD j A:=⟨r.hd,by have:=r.dp;lia,by have:=r.un;lia⟩
theorem cD.deeper(r:cD (k+1) A)(env:Env):cD k (A.deeper env):=
 ⟨r.hd,by have:=r.dp;show A.depth+1+3 * k+5<_;lia,by have:=r.un;show A.units+3+16 * k+200<_;lia⟩
theorem cD.depth{k:Nat}{A:Around}(r:cD k A):A.depth<recursionLimit:=by have:=r.dp;lia
def aaw:TA:=λ_ H Q=>Q [] H
noncomputable def Wr(ta:TE)(tr:TA):TA:=λσ H Q=>ta σ H λx H1=>tr σ H1 λxs H2=>Q (x::xs) H2
section
variable{X:Cx}{e:Expr}{es:List Expr}{te:TE}{t:TA}{pos:Pos}
theorem dW:PA X [] aaw:=λ_ _ _ _ H Q I h=>Calls.spliced_nil ⟨[],H,I,.nil,h⟩
theorem bC(ha:PE X e te)(hr:PA X es t)(hs:starEach (e::es) X.env=(false,eval e X.env)::starEach es X.env:=by rfl):PA X (e::es) (Wr te t):=by
 intro pos ah s σ H Q I h;rw[hs];show wpAny _ _ (spliced ((false,eval e X.env)::backTo pos (starEach es X.env))) _ _ s;refine Calls.spliced_cons (bL (ha ah s σ H _ I h) λu s1 ⟨x,H1,I1,r1,q1⟩=>?_)
 exact bL (hr pos ah s1 σ H1 _ I1 q1) λus s2 ⟨xs,H2,I2,r2,q2⟩=>⟨x::xs,H2,I2,.cons r1 r2,q2⟩
def aax(t:TA):TE:=λσ H Q=>t σ H λxs H1=>xs.length<=sizeLine/\∀p,H1 p=none->Q (.ref p) (upd H1 p (.tup xs))
def Ws(t:TA):TE:=λσ H Q=>t σ H λxs H1=>xs.length<=sizeLine/\∀p,H1 p=none->Q (.ref p) (upd H1 p (.lst xs))
theorem Ea{x1}(h:PA X es t):PE X (.Tuple es x1 pos) (aax t):=by
 intro ah s σ H Q I hq;refine wpAny_Tuple_spliced (bL (h pos ah s σ H _ I hq) λus s1 ⟨xs,H1,I1,r,z,q⟩=>⟨by rw[<- r.length];exact z,?_⟩)
 have hf:H1 s1⁻¹=none:=I1.hok.fresh (dS _);refine⟨.ref s1⁻¹,upd H1 s1⁻¹ (.tup xs),I1.laid (t':=s1.toks) (λb u e=>bP _ e) (dS _) ?_,rfl,q _ hf⟩
 exact⟨z,us,r,⟨_,eJ _ rfl,⟨rfl,_,rfl⟩,rfl⟩⟩
theorem wR(h:PA X es t):PE X (.List es pos) (Ws t):=by
 intro ah s σ H Q I hq;refine wpAny_List_spliced (bL (h pos ah s σ H _ I hq) λus s1 ⟨xs,H1,I1,r,z,q⟩=>⟨by rw[<- r.length];exact z,?_⟩)
 have hf:H1 s1⁻¹=none:=I1.hok.fresh (dS _);refine⟨.ref s1⁻¹,upd H1 s1⁻¹ (.lst xs),I1.laid (t':=s1.toks) (λb u e=>bP _ e) (dS _) ?_,rfl,q _ hf⟩
 exact⟨z,us,0,r,eJ _ rfl⟩
end
abbrev Sp:=List V->Hp->VK->XK->Prop
abbrev Al:=List Env->Hp->Shared->XK->Value->Shared->Prop
structure Eb(P:Program)(w:World)(K:Frag)(mg:Str->Option Value)(base:Heap)(A:Around)(outer:List Env)(s:Shared)(H:Hp):Prop where
 frames:A.frames=some outer
 mod:Mod K mg base
 bs:∀b o,base.get? b=some o->s.heap.get? b=some o/\H b=none
 DK:base.objs.size<=s⁻¹
 jS:s.heap.FunFrames base outer
 Jy:∀b∈frs outer,H b=none
 hok:kO P w H s.heap
 bare:AllBare s.gens
def CE(outer:List Env)(P:Program)(w:World)(H:Hp)(s:Shared)(Q:VK)(u:Value)(s':Shared):Prop:=
 ∃v H',s'.os=s.os/\AllBare s'.gens/\Un (frs outer) [] H H' s.heap s'.heap/\kO P w H' s'.heap/\RelV v u/\Q v H'
def CR(CX:Al)(outer:List Env)(P:Program)(w:World)(H:Hp)(s:Shared)(Q:VK)(E:XK)(r:Result)(s':Shared):Prop:=
 match r with
 |.ok (.ret u)=>CE outer P w H s Q u s'
 |.ok _=>False
 |.error e=>CX outer H s E e s'
structure iZ(P:Program)(w:World)(K:Frag)(mg:Str->Option Value)(base:Heap)(CX:Al)(k:Nat)(f:Addr)(fd:FuncData)(ps:List Str)(sp:Sp):Prop where
 len:∀vs H Q E,sp vs H Q E->vs.length=ps.length
 run:∀(A:Around) (outer:List Env) (s:Shared) (H:Hp) (args:Args) (us:List Value) (vs:List V) (Q:VK) (E:XK),cD k A->Eb P w K mg base A outer s H->BindsTo s fd args (ps.zip us)->Vals vs us->sp vs H Q E->
  codeAny (model P w) A (.call (.ref f) args) (CR CX outer P w H s Q E) s
section
variable{X:Cx}{ah:List (Addr×Obj)}{σ:St}{H:Hp}{s s':Shared}
theorem Inv.JG(I:Inv X ah σ H s):Eb X.prog X.w X.K X.mg X.base X.A X.stack s H:=
 ⟨I.ok.frames,I.ok.mod,I.bs,i5 I.ok.DK I.sz,I.stack,I.r9,I.hok,I.bare⟩
theorem Inv.after(I:Inv X ah σ H s)(h:CE X.stack X.prog X.w H s Q u s'):EP X ah σ Q u s':=by obtain⟨v,H',os,bare,un,hok,r,q⟩:=h;obtain⟨hh,g,d,t,os'⟩:=s';obtain rfl:os'=s.os:=os;exact⟨v,H',I.call (h':=hh) (g':=g) (d':=d) (t':=t) (ch:=[]) un hok bare (λb z=>absurd z ⋯),r,q⟩
end
noncomputable def Wt(sp:Sp)(mj:List V)(E:XK)(t:TA):TE:=λσ H Q=>t σ H λvs H1=>sp (vs++mj) H1 Q E
def Binds(K:Frag)(fd:FuncData)(ps:List Str)(ds:List Value):Prop:=
 ∀(s:Shared) (us:List Value),K.In s.heap->(us++ds).length=ps.length->BindsTo s fd ⟨us,[]⟩ (ps.zip (us++ds))
theorem Binds.all{K:Frag}{fd:FuncData}{ps:List Str}(h:∀us:List Value,us.length=ps.length->bindArgs fd ⟨us,[]⟩=pure (ps.zip us)):Binds K fd ps []:=λs us _ hl=>by
 rw[mB]at hl ⊢
 exact .of_eq (h us hl)
def Passes(CX:Al)(X:Cx)(E:XK):Prop:=∀(ah:List (Addr×Obj)) (σ:St) (H:Hp) (s:Shared) (e:Value) (s':Shared),Inv X ah σ H s->CX X.stack H s E e s'->X.xe e s'
section
variable{X:Cx}{CX:Al}{k:Nat}{f C:Addr}{fd:FuncData}{ps:List Str}{sp:Sp}{mj:List V}{ds:List Value}{E:XK}{x m:Str}{p pos bG:Pos}{e o:Expr}{es:List Expr}{ta:TE}{t:TA}
theorem P5{ah:List (Addr×Obj)}{σ:St}{H:Hp}{s:Shared}{Q:VK}{us:List Value}{vs:List V}(F:iZ X.prog X.w X.K X.mg X.base CX k f fd ps sp)(hr:cD k X.A)(hb:Binds X.K fd ps ds)(hd:Vals mj ds)(hx:Passes CX X E)
  (I:Inv X ah σ H s) (r:Vals vs us) (h:sp (vs++mj) H Q E):wpAny (model X.prog X.w) X.A (call (.ref f) us) (EP X ah σ Q) X.xe s:=by
 have r2:Vals (vs++mj) (us++ds):=r.append hd;have hl:(us++ds).length=ps.length:=by rw[<- r2.length];exact F.len _ _ _ _ h
 refine CM (A7 (F.run X.A X.stack s H ⟨us,[]⟩ (us++ds) (vs++mj) Q E hr I.JG (hb s us I.nB hl) r2 h) λr s' hq=>?_)
 cases r with
 |error e=>exact hx ah σ H s e s' I hq
 |ok fl=>
  cases fl with
  |ret u=>exact I.after hq
  |next=>exact False.elim hq
  |brk=>exact False.elim hq
  |cont=>exact False.elim hq
theorem yT(F:iZ X.prog X.w X.K X.mg X.base CX k f fd ps sp)(hr:cD k X.A)(hg:Gl X x)(hm:X.mg x=some (.ref f))(hk:PySem.W.keepIn X.K (.ref f)=true)(hb:Binds X.K fd ps ds)(hd:Vals mj ds)(hx:Passes CX X E)
  (ha:PA X (e::es) t) (jt:(x==("__debug__":Str))=false:=by decide) (he:starEach (e::es) X.env=(false,eval e X.env)::starEach es X.env:=by rfl) (gQ:(backTo pos (starEach es X.env)).any (·.1)=false:=by rfl) :
  PE X (.Call (.Name x p) (e::es) [] pos) (Wt sp mj E t):=by
 intro ah s σ H Q I h;refine tJ (fB I hg hm ?_ jt);refine AM (h₀:=X.base) I.ok.mod.Dn hk (bL (ha pos ah s σ H _ I h) λus s1 ⟨vs,H1,I1,r,q⟩=>⟨I1.nB,?_⟩) he gQ
 exact P5 F hr hb hd hx I1 r q
end
structure bS(N P:List Str)(sc:Scope):Prop where
 kind:sc.kind=.function
 co:sc.isCoroutine=false
 gen:sc.isGenerator=false
 nd:N.Nodup
 pre:N.take P.length=P
 par:∀x∈P,sc.names.lookup x=some .local\/sc.names.lookup x=some .cell
 P6:∀y∈sc.names,y.2≠.free
theorem qV{kindOf:Str->Option NameKind}{x:Str}:∀{binds:List (Str×Value)}{m:Str->Option Value},(∀v,(x,v)∉binds)->bindL kindOf binds m x=m x
 | [],_,_=>rfl
 | (n,v)::r,m,h=>by
  unfold bindL;rw[qV λw hw=>h w (a9 _ hw)]
  split
  .
   have:x≠n:=by rintro rfl;exact h v dA
   simp[this]
  . rfl
theorem qW{kindOf:Str->Option NameKind}{x:Str}:∀{binds:List (Str×Value)}{m:Str->Option Value},(∀v,(x,v)∉binds)->bindC kindOf binds m x=m x
 | [],_,_=>rfl
 | (n,v)::r,m,h=>by
  unfold bindC;rw[qW λw hw=>h w (a9 _ hw)]
  split
  . rfl
  .
   have:x≠n:=by rintro rfl;exact h v dA
   simp[this]
theorem qX{kindOf:Str->Option NameKind}{x:Str}{v:Value}:∀{P:List Str}{vs:List Value}{i:Nat}{m:Str->Option Value},P.Nodup->P[i]?=some x->vs[i]?=some v->kindOf x=some .local->
  bindL kindOf (P.zip vs) m x=some v
 | [],_,_,_,_,h,_,_=>by simp at h
 |_::_,[],_,_,_,_,h,_=>by simp at h
 |p::P,w::vs,0,m,nd,h1,h2,hk=>by
  simp at h1 h2;subst h1;subst h2;show bindL kindOf ((p,w)::P.zip vs) m p=_;unfold bindL;rw[qV λv hv=>(hV.mp nd).1 (Cf hv).1,fN hk]
  simp
 |p::P,w::vs,i+1,m,nd,h1,h2,hk=>by
  show bindL kindOf ((p,w)::P.zip vs) m x=_;unfold bindL;exact qX (i:=i) (hV.mp nd).2 (by simpa using h1) (by simpa using h2) hk
theorem qY{kindOf:Str->Option NameKind}{x:Str}{v:Value}:∀{P:List Str}{vs:List Value}{i:Nat}{m:Str->Option Value},P.Nodup->P[i]?=some x->vs[i]?=some v->kindOf x≠some .local->
  bindC kindOf (P.zip vs) m x=some v
 | [],_,_,_,_,h,_,_=>by simp at h
 |_::_,[],_,_,_,_,h,_=>by simp at h
 |p::P,w::vs,0,m,nd,h1,h2,hk=>by
  simp at h1 h2;subst h1;subst h2;show bindC kindOf ((p,w)::P.zip vs) m p=_;unfold bindC;rw[qW λv hv=>(hV.mp nd).1 (Cf hv).1,gN hk]
  simp
 |p::P,w::vs,i+1,m,nd,h1,h2,hk=>by
  show bindC kindOf ((p,w)::P.zip vs) m x=_;unfold bindC;exact qY (i:=i) (hV.mp nd).2 (by simpa using h1) (by simpa using h2) hk
noncomputable def start(N:List Str)(vs:List V):St:=vs.map some++List.replicate (N.length - vs.length) none
noncomputable def fL(CX:Al)(P:Program)(w:World)(K:Frag)(mg:Str->Option Value)(base:Heap)(N:List Str)(qual:Str)(scope:Scope)(f:Addr)(cd:Value)(A:Around)(outer:List Env)(s:Shared)(H:Hp)(E:XK):Cx where
 prog:=P
 w:=w
 K:=K
 mg:=mg
 base:=base
 A:=A.deeper (envOfC qual scope s⁻¹ f cd)
 N:=N
 s₀:=s
 H₀:=H
 env:=envOfC qual scope s⁻¹ f cd
 outer:=outer
 stack:=envOfC qual scope s⁻¹ f cd::outer
 ex:=[]
 calm:=true
 fn:=λ_=>true
 pn:=[]
 xe:=λe s'=>wpAny (model P w) (A.deeper (envOfC qual scope s⁻¹ f cd)) (leaving (envOfC qual scope s⁻¹ f cd) e) (λ_ s''=>CX outer H s E e s'') (λe' s''=>CX outer H s E e' s'') s'
theorem uK{sc:Scope}{n:Nat}{x:Str}(h:sc.names.lookup x=some .cell):∃c,(cellsFrom n sc.names []).lookup x=some c:=by have q:=BO sc.names n [] (.inl h);exact Option.isSome_iff_exists.mp q
theorem qZ{CX:Al}{P:Program}{w:World}{K:Frag}{mg:Str->Option Value}{base:Heap}{N ps:List Str}{qual:Str}{scope:Scope}{f:Addr}{cd:Value}{A:Around}{outer:List Env}{s s1:Shared}{H:Hp}{E:XK}{us:List Value}{vs:List V}
  (S:bS N ps scope) (hd:A.handled=none) (e0:Eb P w K mg base A outer s H) (hl:vs.length=ps.length) (r:Vals vs us)
  (x:InCallC s s⁻¹ (bindL (envOfC qual scope s⁻¹ f cd).kindOf (ps.zip us) λ_=>none) (cellsFrom (s⁻¹+1) scope.names []) (bindC (envOfC qual scope s⁻¹ f cd).kindOf (ps.zip us) λ_=>none) s1) :
  Inv (fL CX P w K mg base N qual scope f cd A outer s H E) [] (start N vs) H s1:=by
 have gQ:ps.length<=N.length:=by have:=congrArg List.length S.pre;rw[wE]at this;lia
 obtain⟨h1,tk,rfl,hk⟩:=x.done;have Wu:∀b:Addr,b∉(fL CX P w K mg base N qual scope f cd A outer s H E).ex:=λb z=>absurd (show b∈([]:List Addr)from z) ⋯
 refine⟨⟨e0.mod,S.kind,rfl,rfl,dS _,λy z c h1 h2=>?_,λy hy=>?_,λy c _ h=>?_,λ_=>hd,Around.frames_deeper e0.frames,.inr ⟨rfl,rfl⟩,λb z=>absurd z (Wu b),e0.bs,e0.DK,λb _ _=>Wu b,λb z=>absurd z (Wu b),e0.jS,e0.Jy⟩,
  rfl,e0.bare,Un.kept hk,⟨_,x.toInCall.ns,λi y v h1 h2 h3=>?_⟩,λy c h=>⟨_,x.cell y c h⟩,e0.hok.fresh (dS _),λy c h=>?_,λp hp=>absurd (show p∈([]:List (Addr×Obj))from hp) ⋯,e0.hok.kept hk,?_⟩
 . exact name_of_addr x.apart (AH h1) (AH h2)
 .
  have hy:scope.names.lookup y=some .cell\/scope.names.lookup y=some .free:=hy;rcases hy with hy |hy
  . exact uK hy
  . exact absurd rfl (S.P6 _ (AH hy))
 . exact CC (x.above y c (AH h))
 .
  have hi:i<vs.length:=by
   unfold start at h2;by_cases hi:i<vs.length
   . exact hi
   .
    rw[eA (by simpa using hi)]at h2
    rw[AI]at h2;split at h2 <;> cases h2
  have ha:vs[i]?=some v:=by
   unfold start at h2;rw[dL (by simpa using hi),oP]at h2
   cases e:vs[i]? with
   |none=>rw[e]at h2;cases h2
   |some a=>rw[e]at h2;cases h2;rfl
  obtain⟨u,hu,rv⟩:=r.get ha;have hp:ps[i]?=some y:=by rw[<- S.pre,u8 ⋯];exact h1
  have ndP:ps.Nodup:=by rw[<- S.pre];exact S.nd.sublist (List.take_sublist _ _)
  refine⟨u,rv,?_⟩;rcases S.par y (kS hp)with k |k
  . exact .inl ⟨k,qX ndP hp hu k⟩
  .
   obtain⟨c,e⟩:=uK (n:=s⁻¹+1) k;refine .inr ⟨.inl k,c,e,?_⟩;have q:=x.cell y c e;rw[qY ndP hp hu (by show scope.names.lookup y≠_;rw[k];decide)]at q
   exact q
 . exact e0.hok.fresh (CC (x.above y c (AH h)))
 . unfold start;show _=N.length;rw[eR,fR,gL];lia
theorem N2{CX:Al}{P:Program}{w:World}{K:Frag}{mg:Str->Option Value}{base:Heap}{k:Nat}{f:Addr}{name qual:Str}{params:Arguments}{body:List Stmt}{scope:Scope}{dV kV doc pm bD ct oc:Value}{an od:Option Addr}
  {osl:Array (Option Value)}{N ps:List Str}{sp:Sp} (lk:K.lookup f=some ⟨oc,od,.func (PySem.W.fnOf name qual params body scope dV kV doc pm an bD ct),osl⟩) (bE:PySem.W.codeIn K bD qual=true) (S:bS N ps scope)
  (len:∀vs H Q E,sp vs H Q E->vs.length=ps.length)
  (hbody:∀(A:Around) (outer:List Env) (s:Shared) (H:Hp) (vs:List V) (Q:VK) (E:XK),cD k (A.deeper (envOfC qual scope s⁻¹ f bD))->sp vs H Q E->
   ∃t,se (fL CX P w K mg base N qual scope f bD A outer s H E) body t/\t { nx:=λ_ H'=>Q .non H',rt:=Q} (start N vs) H) :
  iZ P w K mg base CX (k+1) f (PySem.W.fnOf name qual params body scope dV kV doc pm an bD ct) ps sp:=by
 refine⟨len,λA outer s H args us vs Q E hr e0 hb r Vc=>?_⟩
 have hl:=len _ _ _ _ Vc;have KX:K.In s.heap:=e0.mod.Dn.keeps λb o e=>(e0.bs b o e).1
 have lim:s.heap.NoLimit:=e0.mod.nolimit.keeps λb o e=>(e0.bs b o e).1
 have hkind:∀y∈ps.zip us,scope.names.lookup y.1=some .local\/(scope.names.lookup y.1=some .cell/\((cellsFrom (s⁻¹+1) scope.names []).lookup y.1).isSome=true):=λ⟨n,v⟩ hy=>by
  rcases S.par n (Cf hy).1 with q |q
  . exact .inl q
  . exact .inr ⟨q,BO _ _ _ (.inl q)⟩
 refine codeAny_call_function hr.depth (KX _ _ lk) rfl S.co S.gen rfl (PySem.W.codeRec_of KX bE) (hb _ _ _ _ ?_);refine wpAny_newFunctionEnv_cells S.kind hkind λenv he s1 x=>?_
 subst he;refine⟨lim.keeps x.toInCall.keep,codeAny_func ?_⟩;obtain⟨t,ht,hq⟩:=hbody A outer s H vs Q E (hr.deeper _) Vc;have I:Inv (fL CX P w K mg base N qual scope f bD A outer s H E) [] (start N vs) H s1:=qZ S hr.hd e0 hl r x;refine l5 (ht [] s1 (start N vs) H _ I hq) (λfl s' hs=>?_) λe s' hs=>hs
 have fin:∀{σ':St}{H':Hp}{v:V}{u:Value},Inv (fL CX P w K mg base N qual scope f bD A outer s H E) [] σ' H' s'->RelV v u->Q v H'->CE outer P w H s Q u s':=
  λ{σ' H' v u} J rv q=>⟨v,H',J.os,J.bare,J.base,J.hok,rv,q⟩
 cases fl with
 |ret u=>obtain⟨v,σ',H',J,rv,q⟩:=hs;exact fin J rv q
 |next=>obtain⟨σ',H',J,q⟩:=hs;exact fin (v:=V.non) (u:=Value.none) J rfl q
 |brk=>obtain⟨_,_,_,q⟩:=hs;exact False.elim q
 |cont=>obtain⟨_,_,_,q⟩:=hs;exact False.elim q
section
variable{X:Cx}{x:Str}{p pos:Pos}{e:Expr}{es:List Expr}{t:TA}{id T:String}{r:List V->Hp->VK->Prop}
noncomputable def tCB(r:List V->Hp->VK->Prop)(t:TA):TE:=λσ H Q=>t σ H λvs H1=>r vs H1 Q
theorem jV(hc:fC X (.builtin id) r)(hg:Gl X x)(hm:X.mg x=none)(hv:bootBuiltins x=some (.builtin id))(ha:PA X (e::es) t)(hn:x≠ "__name__" :=by decide)(jt:(x==("__debug__":Str))=false:=by decide)
  (he:starEach (e::es) X.env=(false,eval e X.env)::starEach es X.env:=by rfl) (gQ:(backTo pos (starEach es X.env)).any (·.1)=false:=by rfl):PE X (.Call (.Name x p) (e::es) [] pos) (tCB r t):=by
 intro ah s σ H Q I h;refine tJ (fK I hg hm hv ?_ hn jt);exact PyProof.Rows.callWith_builtin1 (bL (ha pos ah s σ H _ I h) λus s1 ⟨vs,H1,I1,r1,q1⟩=>hc ah s1 σ H1 vs us Q I1 r1 q1) he gQ
theorem Am(hc:fC X (.type T) r)(hg:Gl X x)(hm:X.mg x=none)(hv:bootBuiltins x=some (.type T))(ha:PA X (e::es) t)(hn:x≠ "__name__" :=by decide)(jt:(x==("__debug__":Str))=false:=by decide)
  (he:starEach (e::es) X.env=(false,eval e X.env)::starEach es X.env:=by rfl) (gQ:(backTo pos (starEach es X.env)).any (·.1)=false:=by rfl):PE X (.Call (.Name x p) (e::es) [] pos) (tCB r t):=by
 intro ah s σ H Q I h;refine tJ (fK I hg hm hv ?_ hn jt);exact mE (bL (ha pos ah s σ H _ I h) λus s1 ⟨vs,H1,I1,r1,q1⟩=>hc ah s1 σ H1 vs us Q I1 r1 q1) he gQ
end
end L2
namespace HT
open PySem PyProof.Rows
noncomputable def lexLt:List Int->List Int->Bool
 | [],[]=>false
 | [],_::_=>true
 |_::_,[]=>false
 |x::xs,y::ys=>if x=y then lexLt xs ys else decide (x<y)
theorem dg(x y:Int)(xs ys:List Int):lexLt (x::xs) (y::ys)=if x=y then lexLt xs ys else decide (x<y):=rfl
theorem qq:lexLt [] []=false:=rfl
theorem n6(y:Int)(ys:List Int):lexLt [] (y::ys)=true:=rfl
theorem n8(x:Int)(xs:List Int):lexLt (x::xs) []=false:=rfl
theorem Ec(A:Around)(s:Shared)(a:Int)(t:Tok)(c:Int)(u:Tok):∃e,SeqAt.EqAt A s (.int a t) (.int c u) e/\(e=true ↔ a=c):=
 ⟨(a==c),SeqAt.EqAt.int_int a t c u,by simp⟩
theorem Ed(A:Around)(s:Shared)(a:Int)(t:Tok)(c:Int)(u:Tok)(prog:Program)(w:World)(E:Value->Shared->Prop)(Q:Value->Shared->Prop)(h:Q (.bool (decide (a<c))) s) :
  wpAny (model prog w) A (richCompare .Lt (.int a t) (.int c u)) Q E s:=
 (PyProof.Rows.lt_int h:wpAny (model prog w) A (compareOp .Lt (.int a t) (.int c u)) Q E s)
section
open PySem.SeqAt
open PySem.AutoSeq1 (wpAny_loadPart')
open PySem.MeetsSeq PySem.MeetsSeq2 PySem.MeetsSeq3
theorem qu(l b:Addr)(aj items2:Array Value)(n n2:Nat)(dd dd2:Option Addr)(sl sl2:Array (Option Value))(ns ms:List Int)(hi:IntsAre aj.toList ns)(hj:IntsAre items2.toList ms) :
  Meets (Builtin.«tuple.__lt__» ⟨[.ref l,.ref b],[]⟩)
   (λ_ R s=>s.heap.get? l=some { cls:=.type "tuple",dict:=dd,data:=.seq aj n,slots:=sl}/\s.heap.get? b=some { cls:=.type "tuple",dict:=dd2,data:=.seq items2 n2,slots:=sl2}/\
    R (.ok (.ret (.bool (lexLt ns ms)))) s):=
 .of_wp λprog w A R s h=>by
  obtain⟨hp,g,d,tk,os⟩:=s;obtain⟨hl,hb,h⟩:=h;have f2:=AutoSeq1.sub_tuple_tuple;have z1:aj.size=ns.length:=by rw[<- hi.length];simp
  have z2:items2.size=ms.length:=by rw[<- hj.length];simp
  wp_walk using wpAny_loadPart' hl,wpAny_loadPart' hb,wpAny_forIn_list _ (λrest b s'=>b.1=none/\s'=⟨hp,g,d,tk,os⟩/\∃(vs ws:List Value) (ns' ms':List Int),rest=vs.zip ws/\
   IntsAre vs ns'/\IntsAre ws ms'/\ns'.length+items2.size=ms'.length+aj.size/\R (.ok (.ret (.bool (lexLt ns' ms')))) ⟨hp,g,d,tk,os⟩) _
  case turn=>
   rintro⟨y,x⟩ rest b s' ⟨hb',rfl,vs,ws,ns',ms',hz,hvi,hwi,aL,hR⟩;cases hvi with
   |nil=>rw[List.zip_nil_left]at hz;cases hz
   |cons a t hvi'=>
    cases hwi with
    |nil=>rw[List.zip_nil_right]at hz;cases hz
    |cons c u hwi'=>
     rw[BD]at hz;injection hz with hyx hrest;injection hyx with hy hx;subst hy hx;rw[dg]at hR;simp only[l6]at aL;obtain⟨e,he,hiff⟩:=Ec A.in1 ⟨hp,g,d,tk,os⟩ a t c u;refine aS (he prog w _ _ ?_);cases e with
     |true=>
      rw[fN (hiff.mp rfl)]at hR
      wp_walk
      exact⟨rfl,rfl,_,_,_,_,hrest,hvi',hwi',by lia,hR⟩
     |false=>
      rw[gN (λq=>absurd (hiff.mpr q) lL)]at hR
      have hri:=Ed A.in1 ⟨hp,g,d,tk,os⟩ a t c u prog w
      wp_walk using hri
      exact⟨_,rfl,by simpa using hR⟩
  case fin=>
   rintro⟨b1,b2⟩ s' ⟨hb',rfl,vs,ws,ns',ms',hz,hvi,hwi,aL,hR⟩;simp only at hb';subst hb';have hv:lexLt ns' ms'=decide (aj.size<items2.size):=by
    cases hvi with
    |nil=>
     cases hwi with
     |nil=>simp only[AO]at aL;rw[qq];exact (t7 ⋯).symm
     |cons c u hw=>simp only[AO,l6]at aL;rw[n6];exact (xI ⋯).symm
    |cons a t hv=>
     cases hwi with
     |nil=>simp only[AO,l6]at aL;rw[n8];exact (t7 ⋯).symm
     |cons c u hw=>rw[BD]at hz;cases hz
   rw[hv]at hR
   wp_walk
   exact⟨_,rfl,by simpa [Builtin.Tuple.tupleCompareSizes]using hR⟩
  case h=>exact⟨rfl,rfl,aj.toList,items2.toList,ns,ms,rfl,hi,hj,by lia,h⟩
end
section
variable{prog:Program}{w:World}{A:Around}{E:Value->Shared->Prop}{s:Shared}
theorem wU(hl:IsTup s.heap l aj)(hb:IsTup s.heap b items2)(hi:IntsAre aj.toList ns)(hj:IntsAre items2.toList ms)
  (hu:A.units<cLine) (h:Q (.bool (lexLt ns ms)) s):wpAny (model prog w) A (compareOp .Lt (.ref l) (.ref b)) Q E s:=by
 obtain⟨⟨cls,dd,data,sl⟩,ho,hc,n,hd⟩:=id hl;obtain⟨⟨Wv,dd2,data2,sl2⟩,ho2,hc2,n2,hd2⟩:=id hb;simp only at hc hd hc2 hd2;subst hc hd hc2 hd2;exact richCompare_meets_room (op:=.Lt) ⟨_,ho,rfl⟩ ⟨_,ho2,rfl⟩ PySem.F.slot_tuple_lt PySem.F.entry_tuple_lt (PySem.F.args_tuple_lt_2 _ _) (qu l b aj items2 n n2 dd dd2 sl sl2 ns ms hi hj)
  ⟨ho,ho2,show Value.bool (lexLt ns ms)≠Value.notImplemented/\Q (.bool (lexLt ns ms)) s from⟨(λx=>nomatch x),h⟩⟩ hu
theorem JH(ht:IsTup s.heap t vs.toArray)(hb:IsTup s.heap b ws.toArray)(hv:vs≠[])
  (h1:ws=[]->Q (.ref t) s) (h2:ws≠[]->Q (.ref s⁻¹) { s with heap:=s.heap.push { cls:=.type "tuple",data:=.seq (vs++ws).toArray}})
  (jk:vs.length+ws.length<=sizeLine):wpAny (model prog w) A (binaryOp .Add (.ref t) (.ref b)) Q E s:=by
 obtain⟨⟨cls,dd,data,sl⟩,ho,hc,n,hd⟩:=id ht;obtain⟨⟨Wv,dd2,data2,sl2⟩,ho2,hc2,n2,hd2⟩:=id hb;simp only at hc hd hc2 hd2;subst hc hd hc2 hd2;have e:vs.toArray++ws.toArray=(vs++ws).toArray:=by simp
 by_cases hw:ws=[]
 .
  exact concat_meets ⟨_,ho,rfl⟩ ⟨_,ho2,rfl⟩ noFill_tuple_add seq_tuple_add BQ BE (A8 _ _)
   (tuple_addW1 t b vs.toArray ws.toArray n n2 dd dd2 sl sl2 (by simpa using hv) (by simp[hw])) ⟨ho,ho2,h1 hw⟩
 .
  refine concat_meets ⟨_,ho,rfl⟩ ⟨_,ho2,rfl⟩ noFill_tuple_add seq_tuple_add BQ BE (A8 _ _)
   (tuple_addW2 t b vs.toArray ws.toArray n n2 dd dd2 sl sl2 (by simpa using hv) (by simpa using hw) (by rw[dC,dC];exact jk)) ⟨ho,ho2,?_⟩
  rw[e];exact h2 hw
noncomputable def bR(n d:Nat):Option Int->Nat
 |none=>d
 |some v=>if v<0 then (v+(n:Int)).toNat else min v.toNat n
theorem P7(n d:Nat)(hd:d<=n)(o:Option Int):bR n d o<=n:=by
 cases o with
 |none=>exact hd
 |some v=>
  show (if v<0 then (v+(n:Int)).toNat else min v.toNat n)<=n
  by_cases hv:v<0
  . rw[fN hv];lia
  . rw[gN hv];exact Nat.min_le_right _ _
theorem yU(v:Int)(n d:Nat):(if v<0 then max (v+(n:Int)) 0 else min v (n:Int))=((bR n d (some v):Nat):Int):=by
 show (if v<0 then max (v+(n:Int)) 0 else min v (n:Int))=(((if v<0 then (v+(n:Int)).toNat else min v.toNat n):Nat):Int)
 by_cases hv:v<0
 . simp only[fN hv];lia
 . simp only[gN hv];lia
theorem wV(lo hi:Option Int)(n:Nat):Builtin.Slice.sliceAdjust lo hi 1 (n:Int)=(((bR n 0 lo:Nat):Int),((bR n n hi:Nat):Int)):=by
 have h1 : ¬ ((1:Int)<0):=by lia
 unfold Builtin.Slice.sliceAdjust;simp only[h1,CD];refine Prod.ext ?_ ?_
 .
  cases lo with
  |none=>rfl
  |some v=>exact yU v n 0
 .
  cases hi with
  |none=>rfl
  |some v=>exact yU v n n
theorem wW(i j:Nat):Builtin.Slice.slicePlaces (i:Int) (j:Int) 1=j - i:=by
 unfold Builtin.Slice.slicePlaces;have h1:(1:Int) > 0:=by lia
 simp only[h1,wS,Int.ediv_one];split <;> lia
theorem gB(p:IsPart v o)(h:Q o s):wpAny (model prog w) A (Builtin.Slice.slicePartIndex v) Q E s:=by
 cases p with
 |none=>exact slicePart_none h
 |int i t=>exact slicePart_int h
theorem fT{sl:Addr}{vl vu:Value}{lo hi:Option Int}{n:Nat}{Q:Int×Int×Nat->Shared->Prop}(hs:s.heap.IsSliceOf sl vl vu .none)(pl:IsPart vl lo)(pu:IsPart vu hi)
  (h:Q (((bR n 0 lo:Nat):Int),1,bR n n hi - bR n 0 lo) s):wpAny (model prog w) A (Builtin.Slice.sliceApplied (.ref sl) (pure (n:Int))) Q E s:=by
 obtain⟨os,hos,hcs,hds⟩:=id hs;unfold Builtin.Slice.sliceApplied Builtin.Slice.sliceFields;refine aS (aS (mI hos hds (x:=vl) rfl (aS (mI hos hds (x:=vu) rfl (aS (mI hos hds (x:=.none) rfl (dE ?_)))))));refine aS (slicePart_none ?_);show wpAny _ _ (if ((1:Int)==0)=true then _ else _) _ _ s
 rw[gN ⋯];refine aS (gB pl (aS (gB pu (aS (dE ?_)))));show wpAny _ _ (match Builtin.Slice.sliceAdjust lo hi 1 (n:Int)with | (lo,hi)=>pure (lo,(1:Int),Builtin.Slice.slicePlaces lo hi 1)) _ _ s
 rw[wV lo hi n];show wpAny _ _ (pure (((bR n 0 lo:Nat):Int),(1:Int),Builtin.Slice.slicePlaces ((bR n 0 lo:Nat):Int) ((bR n n hi:Nat):Int) 1)) _ _ s;rw[wW];exact dE h
theorem Ef(xs:Array Value)(i k:Nat):((List.range k).filterMap λ(m:Nat)=>xs[((i:Int)+(m:Int) * 1).toNat]?).toArray=((xs.toList.drop i).take k).toArray:=by
 have e:(λ(m:Nat)=>xs[((i:Int)+(m:Int) * 1).toNat]?)=λm=>xs[i+m]?:=by
  funext m
  have:((i:Int)+(m:Int) * 1).toNat=i+m:=by lia
  rw[this]
 rw[e];have:=pick_run xs i k;rw[List.filterMap_map]at this;have e2:((λx=>xs[x]?) ∘ λx=>i+x)=λm=>xs[i+m]?:=rfl
 rw[e2]at this;rw[this]
theorem jW{t sl:Addr}{aj:Array Value}{vl vu:Value}{lo hi:Option Int}{Q:Value->Shared->Prop}(ht:IsTup s.heap t aj)(hs:s.heap.IsSliceOf sl vl vu .none)(pl:IsPart vl lo)(pu:IsPart vu hi)
  (hw : ¬ (bR aj.size 0 lo=0/\bR aj.size aj.size hi=aj.size))
  (h:Q (.ref s⁻¹) { s with heap:=s.heap.push { cls:=.type "tuple",data:=.seq ((aj.toList.drop (bR aj.size 0 lo)).take (bR aj.size aj.size hi - bR aj.size 0 lo)).toArray}})
  (jk:aj.size<=sizeLine):wpAny (model prog w) A (getItem (.ref t) (.ref sl)) Q E s:=by
 have jX:sizeOk (.seq ((aj.toList.drop (bR aj.size 0 lo)).take (bR aj.size aj.size hi - bR aj.size 0 lo)).toArray):=by show ((aj.toList.drop (bR aj.size 0 lo)).take (bR aj.size aj.size hi - bR aj.size 0 lo)).toArray.size<=sizeLine;rw[dC,wE,List.length_drop,nE];lia
 have hj:bR aj.size aj.size hi<=aj.size:=P7 _ _ (dS _) hi;obtain⟨os,hos,hcs,hds⟩:=id hs;have Ww:s.TypeIs (.ref sl) "slice" :=⟨os,hos,hcs⟩;unfold getItem
 try with_reducible refine mM ?_
 first |refine aS (dE ?_) |skip
 refine aS (wpAny_sequenceKey ht.typeIs ⋯ ?_);refine aS (o6 (name:=Str.ofString "__getitem__") ht.typeIs nV
  (tS nV ht.typeIs entry_tuple_getitem ?_ (args_tuple_getitem _ _)))
 show wpAny _ _ (Builtin.Tuple.tupleItemsOf (.ref t) >>= _) _ _ s;refine aS (tupleItemsOf_ ht ?_);refine aS (CF Ww ?_);rw[fN ⋯];refine aS (fT hs pl pu ?_);have hno : ¬ ((((bR aj.size 0 lo:Nat):Int)==0&&(1:Int)==1&&(bR aj.size aj.size hi - bR aj.size 0 lo)==aj.size)=true):=by intro q;rw[eC,eC]at q;have q1:((bR aj.size 0 lo:Nat):Int)=0:=eq_of_beq q.1.1;have q2:bR aj.size aj.size hi - bR aj.size 0 lo=aj.size:=eq_of_beq q.2;exact hw ⟨by lia,by lia⟩
 show wpAny _ _ (if (((bR aj.size 0 lo:Nat):Int)==0&&(1:Int)==1&&(bR aj.size aj.size hi - bR aj.size 0 lo)==aj.size)=true then _ else _) _ _ s
 rw[gN hno,Ef]
 first
  |exact aS (m:=Builtin.Tuple.tupleExact _) (n0 (dE ⟨_,rfl,dE h⟩) jX)
  |exact aS (m:=Builtin.Tuple.tupleExact _) (n0 (aS (dE (dE ⟨_,rfl,dE h⟩))) jX)
  |exact aS (aS (m:=Builtin.Tuple.tupleExact _) (n0 (dE (dE ⟨_,rfl,dE h⟩)) jX))
  |exact aS (aS (m:=Builtin.Tuple.tupleExact _) (n0 (dE ⟨_,rfl,dE h⟩) jX))
end
end HT
namespace L2
abbrev TO:=St->Hp->(Option Int->Hp->Prop)->Prop
def PO(X:Cx)(e:Option Expr)(t:TO):Prop:=
 ∀(ah:List (Addr×Obj)) (s:Shared) (σ:St) (H:Hp) (Q:Option Int->Hp->Prop),Inv X ah σ H s->t σ H Q->
  wpAny (model X.prog X.w) X.A (evalPart e X.env) (λu s'=>∃o H',Inv X ah σ H' s'/\IsPart u o/\Q o H') X.xe s
def JK:TO:=λ_ H Q=>Q none H
def Wx(t:TE):TO:=λσ H Q=>t σ H λx H1=>∃i,x=.int i/\Q (some i) H1
theorem intsAre_of:∀{us:List Value},Vals (ns.map V.int) us->IntsAre us ns:=by
 induction ns with
 |nil=>intro us r;rw[List.map_nil]at r;cases r;exact .nil
 |cons n ns ih=>
  intro us r;rw[List.map_cons]at r;cases r with
  |cons r1 r2=>obtain⟨t,e⟩:=r1;subst e;exact .cons n t (ih r2)
section
variable{X:Cx}{e:Expr}{te:TE}{lo hi:Option Expr}{tl th:TO}{pos p2:Pos}
theorem JL:PO X none JK:=by intro ah s σ H Q I h;rw[evalPart_none];exact dE ⟨none,H,I,.none,h⟩
theorem JM(h:PE X e te):PO X (some e) (Wx te):=by
 intro ah s σ H Q I hw;rw[evalPart_some];refine bL (h ah s σ H _ I hw) λu s1 ⟨x,H1,I1,r1,q1⟩=>?_
 obtain⟨i,rfl,q⟩:=q1;obtain⟨t,rfl⟩:=r1;exact⟨some i,H1,I1,.int i t,q⟩
def Zq(X:Cx)(r:V->Option Int->Option Int->Hp->VK->Prop):Prop:=
 ∀(ah:List (Addr×Obj)) (s:Shared) (σ:St) (H:Hp) (x:V) (v vl vu:Value) (lo hi:Option Int) (sl:Addr) (Q:VK),Inv X ah σ H s->RelV x v->s.heap.IsSliceOf sl vl vu .none->IsPart vl lo->IsPart vu hi->r x lo hi H Q->
  ∃T id,typeLookup (.type T) "__getitem__"=pure (some (.builtin id))/\s.TypeIs v T/\wpAny (model X.prog X.w) X.A (getItem v (.ref sl)) (EP X ah σ Q) X.xe s
noncomputable def tSl(r:V->Option Int->Option Int->Hp->VK->Prop)(te:TE)(tl th:TO):TE:=λσ H Q=>te σ H λx H1=>tl σ H1 λl H2=>th σ H2 λu H3=>r x l u H3 Q
theorem n9{r:V->Option Int->Option Int->Hp->VK->Prop}(hr:Zq X r)(he:PE X e te)(hl:PO X lo tl)(hu:PO X hi th):PE X (.Subscript e (.Slice lo hi none p2) pos) (tSl r te tl th):=by
 intro ah s σ H Q I h;refine Subscript_ (bL (he ah s σ H _ I h) λv s1 ⟨x,H1,I1,r1,q1⟩=>?_)
 refine wpAny_Slice (bL (hl ah s1 σ H1 _ I1 q1) λvl s2 ⟨l,H2,I2,pl,q2⟩=>bL (hu ah s2 σ H2 _ I2 q2) λvu s3 ⟨u,H3,I3,pu,q3⟩=>?_)
 rw[evalPart_none];refine dE ?_;have I4:Inv X ah σ H3 { s3 with heap:=s3.heap.push { cls:=.type "slice",data:=.fields #[vl,vu,.none]}}:=I3.kept (t':=s3.toks) λb ob q=>bP _ q
 obtain⟨T,id,hT,ht,hg⟩:=hr ah { s3 with heap:=s3.heap.push { cls:=.type "slice",data:=.fields #[vl,vu,.none]}} σ H3 x v vl vu l u s3⁻¹ Q I4 r1 (Heap.IsSliceOf.new ..) pl pu q3;show wpAny (model X.prog X.w) X.A (subscriptTail e (.Slice lo hi none p2) v (.ref s3⁻¹)) (EP X ah σ Q) X.xe { s3 with heap:=s3.heap.push { cls:=.type "slice",data:=.fields #[vl,vu,.none]}};exact tail_any (ops:=[.ref s3⁻¹,v]) ht hT hg (by with_unfolding_all rfl)
def sD(xs:List V)(lo hi:Option Int):List V:=(xs.drop (HT.bR xs.length 0 lo)).take (HT.bR xs.length xs.length hi - HT.bR xs.length 0 lo)
theorem mq(xs:List V)(lo hi:Option Int):(sD xs lo hi).length<=xs.length:=by unfold sD;rw[wE,List.length_drop];lia
def rSlT(K:Frag):V->Option Int->Option Int->Hp->VK->Prop:=λx lo hi H Q=>∃a xs,x=.ref a/\g7 K H a xs/\
 ¬ (HT.bR xs.length 0 lo=0/\HT.bR xs.length xs.length hi=xs.length)/\∀p,H p=none->Q (.ref p) (upd H p (.tup (sD xs lo hi)))
theorem P8:Zq X (rSlT X.K):=by
 intro ah s σ H x v vl vu lo hi sl Q I rx hs pl pu h;obtain⟨a,xs,rfl,hx,hw,q⟩:=h;cases rx;obtain⟨its,r,ht,hz⟩:=I.tuple hx;have aL:its.toArray.size=xs.length:=by rw[dC];exact r.length.symm
 refine⟨"tuple",_,PyProof.Rows.slot_tuple_getitem.lookup,ht.typeIs,?_⟩;refine HT.jW ht hs pl pu (by rw[aL];exact hw) ?_ (by rw[aL];exact hz)
 rw[aL];refine⟨.ref s⁻¹,_,I.laid (t':=s.toks) (o:=.tup (sD xs lo hi)) (λb ob q=>bP _ q) (dS _) ?_,rfl,q _ (I.hok.fresh (dS _))⟩
 exact⟨i5 (mq xs lo hi) hz,_,(r.drop (HT.bR xs.length 0 lo)).take (HT.bR xs.length xs.length hi - HT.bR xs.length 0 lo),fJ.new _ _⟩
def rLtT(K:Frag):R2:=λx y H Q=>∃a b ns ms,x=.ref a/\y=.ref b/\g7 K H a (ns.map V.int)/\g7 K H b (ms.map V.int)/\Q (.bl (HT.lexLt ns ms)) H
theorem P9(hu:X.A.units<cLine):mY X (compareOp .Lt) (rLtT X.K):=by intro ah s σ H x y v u Q I rx ry h;obtain⟨a,b,ns,ms,rfl,rfl,ha,hb,q⟩:=h;cases rx;cases ry;obtain⟨its,r1,p1,_⟩:=I.tuple ha;obtain⟨kM,r2,p2,_⟩:=I.tuple hb;have i1:IntsAre its.toArray.toList ns:=intsAre_of r1;have i2:IntsAre kM.toArray.toList ms:=intsAre_of r2;exact HT.wU p1 p2 i1 i2 hu ⟨.bl (HT.lexLt ns ms),H,I,rfl,q⟩
def Wy(K:Frag):R2:=λx y H Q=>∃a b xs ys,x=.ref a/\y=.ref b/\g7 K H a xs/\g7 K H b ys/\xs≠[]/\xs.length+ys.length<=sizeLine/\
 (ys=[]->Q (.ref a) H)/\(ys≠[]->∀p,H p=none->Q (.ref p) (upd H p (.tup (xs++ys))))
theorem Vals.sE(r:Vals xs us):us=[] ↔ xs=[]:=by
 cases r with
 |nil=>simp
 |cons _ _=>simp
theorem JN:mY X (binaryOp .Add) (Wy X.K):=by
 intro ah s σ H x y v u Q I rx ry h;obtain⟨a,b,xs,ys,rfl,rfl,ha,hb,hx,hz,q1,q2⟩:=h;cases rx;cases ry;obtain⟨its,r1,p1,_⟩:=I.tuple ha;obtain⟨kM,r2,p2,_⟩:=I.tuple hb;refine HT.JH p1 p2 (λz=>hx (r1.sE.mp z)) (λz=>⟨.ref a,H,I,rfl,q1 (r2.sE.mp z)⟩) (λz=>?_) (by rw[<- r1.length,<- r2.length];exact hz)
 refine⟨.ref s⁻¹,_,I.laid (t':=s.toks) (o:=.tup (xs++ys)) (λb ob q=>bP _ q) (dS _) ?_,rfl,q2 (λw=>z (r2.sE.mpr w)) _ (I.hok.fresh (dS _))⟩
 exact⟨by rw[eR];exact hz,_,r1.append r2,fJ.new _ _⟩
end
noncomputable def ql(n:Nat)(i:Int):Option Nat:=if 0<=i then (if i<n then some i.toNat else none)else if -(n:Int)<=i then some (i+n).toNat else none
def fy{α:Type}(xs:List α)(i:Int):Option α:=(ql xs.length i).bind λj=>xs[j]?
theorem sF(h:ql n i=some j):seqIndex? i n=some j/\j<n/\-(n:Int)<=i/\i<n:=by
 unfold ql at h;by_cases h0:0<=i
 .
  rw[fN h0]at h;by_cases h1:i<n
  . rw[fN h1]at h;have e:i.toNat=j:=oQ h;exact⟨by rw[seqIndex_of h0 h1,e],by lia,by lia,h1⟩
  . rw[gN h1]at h;cases h
 .
  rw[gN h0]at h;by_cases h1 : -(n:Int)<=i
  . rw[fN h1]at h;have e:(i+n).toNat=j:=oQ h;exact⟨by rw[seqIndex_neg ⋯ h1,e],by lia,h1,by lia⟩
  . rw[gN h1]at h;cases h
theorem yV{α:Type}{xs:List α}{i:Int}{v:α}(h:fy xs i=some v):∃j,seqIndex? i xs.length=some j/\xs[j]?=some v/\j<xs.length/\-(xs.length:Int)<=i/\i<xs.length:=by
 unfold fy at h;cases e:ql xs.length i with
 |none=>rw[e]at h;cases h
 |some j=>rw[e]at h;obtain⟨h1,h2,h3,h4⟩:=sF e;exact⟨j,h1,h,h2,h3,h4⟩
def sG(b:Expr):Prop:=∀o i,subscripted b false o i=operate [o,i] (getItem o i)
def Zr(X:Cx)(r:R2):Prop:=
 ∀(value slice:Expr) (ah:List (Addr×Obj)) (s:Shared) (σ:St) (H:Hp) (x y:V) (v u:Value) (Q:VK),Inv X ah σ H s->RelV x v->RelV y u->r x y H Q->
  subscripted slice false v u=operate [v,u] (getItem v u)->wpAny (model X.prog X.w) X.A (subscriptTail value slice v u) (EP X ah σ Q) X.xe s
def MtR(X:Cx)(id:String)(r:V->List V->Hp->VK->Prop):Prop:=
 ∀(ah:List (Addr×Obj)) (s:Shared) (σ:St) (H:Hp) (x:V) (xs:List V) (v:Value) (us:List Value) (Q:VK),Inv X ah σ H s->RelV x v->Vals xs us->r x xs H Q->
  wpAny (model X.prog X.w) X.A (call (.builtin id) (v::us)) (EP X ah σ Q) X.xe s
section
variable{X:Cx}{a b:Expr}{ta tb:TE}{pos:Pos}
theorem N3{r:R2}(hr:Zr X r)(ha:PE X a ta)(hb:PE X b tb)(hs:sG b):PE X (.Subscript a b pos) (Zn r ta tb):=by intro ah s σ H Q I h;exact Subscript_ (PJ ha hb I h λv u s2 x y H2 I2 rx ry q=>hr a b ah s2 σ H2 x y v u Q I2 rx ry q (hs _ _))
def rIxL(K:Frag):R2:=λx y H Q=>∃p xs i v,x=.ref p/\y=.int i/\bZ K H p xs/\fy xs i=some v/\Q v H
def rIxT(K:Frag):R2:=λx y H Q=>∃p xs i v,x=.ref p/\y=.int i/\g7 K H p xs/\fy xs i=some v/\Q v H
theorem sH:Zr X (rIxL X.K):=by
 intro value slice ah s σ H x y v u Q I rx ry h hs;obtain⟨p,xs,i,z,rfl,rfl,hq,he,q⟩:=h;cases rx;obtain⟨t,rfl⟩:=ry;obtain⟨its,r,pl,hz⟩:=I.list hq;obtain⟨j,h1,h2,h3,h4,h5⟩:=yV he;obtain⟨w,ew,rw'⟩:=r.get h2;have hl:=r.length;have hn:=n5;have fin:EP X ah σ Q w s:=⟨z,H,I,rw',q⟩;by_cases h0:0<=i
 .
  have hj:i.toNat=j:=by rw[seqIndex_of h0 h5]at h1;exact oQ h1
  exact item_listR pl.isList h0 ⋯ (by rw[hj];simpa using ew) fin hs
 .
  have hj:(i+(its.toArray.size:Int)).toNat=j:=by rw[seqIndex_neg ⋯ h4]at h1;rw[dC,<- hl];exact oQ h1
  exact subscriptTail_builtinR (x:=w) pl.isList.typeIs slot_list_getitem.lookup
   (wpAny_getItem_list_neg (Q:=λr s'=>r=w/\EP X ah σ Q r s') pl.isList ⋯ (by rw[dC] <;> lia) ⋯ (by rw[hj];simpa using ew) ⟨rfl,fin⟩) hs
theorem Qa:Zr X (rIxT X.K):=by
 intro value slice ah s σ H x y v u Q I rx ry h hs;obtain⟨p,xs,i,z,rfl,rfl,hq,he,q⟩:=h;cases rx;obtain⟨t,rfl⟩:=ry;obtain⟨its,r,pl,hz⟩:=I.tuple hq;obtain⟨j,h1,h2,h3,h4,h5⟩:=yV he;obtain⟨w,ew,rw'⟩:=r.get h2;have hl:=r.length;have hn:=n5;have fin:EP X ah σ Q w s:=⟨z,H,I,rw',q⟩;exact subscriptTail_builtinR (x:=w) pl.typeIs slot_tuple_getitem.lookup
  (getItem_tuple (j:=j) (Q:=λr s'=>r=w/\EP X ah σ Q r s') pl ⋯ ⋯ (by rw[dC,<- hl];exact h1) (by simpa using ew) ⟨rfl,fin⟩) hs
theorem wX(its:List Value)(n j:Nat)(u:Value):Obj.mapSeq (·.setIfInBounds j u) { cls:=.type "list",data:=.seq its.toArray n}={ cls:=.type "list",data:=.seq (its.set j u).toArray n}:=by simp[Obj.mapSeq]
theorem Inv.lst{ah:List (Addr×Obj)}{σ:St}{H:Hp}{s:Shared}{p:Addr}{xs:List V}(I:Inv X ah σ H s)(h:H p=some (.lst xs)) :
  ∃(its:List Value) (n:Nat),Vals xs its/\s.heap.get? p=some { cls:=.type "list",data:=.seq its.toArray n}/\xs.length<=sizeLine:=by
 obtain⟨z,its,n,r,e⟩:=I.hok p _ h;exact⟨its,n,r,e,z⟩
theorem Inv.Qc{ah:List (Addr×Obj)}{σ:St}{H:Hp}{s:Shared}{p:Addr}{xs ys:List V}{its its':List Value}{n n':Nat}{f:Obj->Obj}(I:Inv X ah σ H s)(h:H p=some (.lst xs))
  (ho:s.heap.get? p=some { cls:=.type "list",data:=.seq its.toArray n}) (hf:f { cls:=.type "list",data:=.seq its.toArray n}={ cls:=.type "list",data:=.seq its'.toArray n'}) (r:Vals ys its') (hz:ys.length<=sizeLine) (t:Nat) :
  Inv X ah σ (upd H p (.lst ys)) { s with heap:=s.heap.update p f,toks:=t}:=by
 have e:(s.heap.update p f).get? p=some { cls:=.type "list",data:=.seq its'.toArray n'}:=by rw[oS f ho (by rw[hf] <;> rfl),hf]
 refine I.write (x:=p) (e:=p) (by rw[h];trivial) (.inl rfl) (λb u hb q=>(i9 _ _ (mP hb)).trans q) ⟨_,e⟩ ?_
 exact⟨hz,its',n',r,e⟩
def Wz:V->V->V->Hp->(Hp->Prop)->Prop:=λo i v H Q=>∃p xs k j,o=.ref p/\i=.int k/\H p=some (.lst xs)/\ql xs.length k=some j/\Q (upd H p (.lst (xs.set j v)))
theorem set_list:V7 X Wz:=by
 intro ah s σ H o i v ov iv u Q I ro ri rv h;obtain⟨p,xs,k,j,rfl,rfl,hp,hj,q⟩:=h;cases ro;obtain⟨t,rfl⟩:=ri;obtain⟨its,n,r,ho,hz⟩:=I.lst hp;obtain⟨h1,h2,h3,h4⟩:=sF hj;have hl:=r.length;have hn:=n5;have I':Inv X ah σ (upd H p (.lst (xs.set j v))) { s with heap:=s.heap.update p (Obj.mapSeq (·.setIfInBounds j u))}:=
  I.Qc hp ho (wX its n j u) (r.set rv j) (by rw[pV];exact hz) s.toks
 by_cases h0:0<=k
 .
  have hk:k.toNat=j:=by rw[seqIndex_of h0 h4]at h1;exact oQ h1
  exact PySem.W.ki_setAt ho h0 ⋯ (by rw[dC,<- hl];exact h4) (by rw[hk];exact⟨_,I',q⟩)
 .
  have hk:(k+(its.toArray.size:Int)).toNat=j:=by rw[seqIndex_neg ⋯ h3]at h1;rw[dC,<- hl];exact oQ h1
  exact PySem.W.ki_setBack ho ⋯ (by rw[dC,<- hl];exact h3) ⋯ (by rw[hk];exact⟨_,I',q⟩)
theorem sI(lo hi:Option Int)(n:Nat):(sliceBounds lo hi none n).1=((HT.bR n 0 lo:Nat):Int)/\(sliceBounds lo hi none n).2.1=((HT.bR n n hi:Nat):Int)/\(sliceBounds lo hi none n).2.2=1:=by
 refine⟨?_,?_,rfl⟩
 .
  cases lo with
  |none=>simp[sliceBounds,HT.bR]
  |some i=>
   simp only[sliceBounds,HT.bR,Option.getD_none,show (1:Int) > 0 by decide,wS]
   by_cases h:i<0
   . simp only[h,wS] <;> lia
   . simp only[h,CD] <;> lia
 .
  cases hi with
  |none=>simp[sliceBounds,HT.bR]
  |some i=>
   simp only[sliceBounds,HT.bR,Option.getD_none,show (1:Int) > 0 by decide,wS]
   by_cases h:i<0
   . simp only[h,wS] <;> lia
   . simp only[h,CD] <;> lia
theorem qw(its:List Value)(lo hi:Option Int):slicePick its.toArray lo hi none=((its.drop (HT.bR its.length 0 lo)).take (HT.bR its.length its.length hi - HT.bR its.length 0 lo)).toArray:=by obtain⟨h1,h2,h3⟩:=sI lo hi its.toArray.size;unfold slicePick;rw[h1,h2,h3];simp only[sliceRange_one,pick_run,dC] <;> rfl
def rSlL(K:Frag):V->Option Int->Option Int->Hp->VK->Prop:=λx lo hi H Q=>∃a xs,x=.ref a/\bZ K H a xs/\∀p,H p=none->Q (.ref p) (upd H p (.lst (sD xs lo hi)))
theorem yW:Zq X (rSlL X.K):=by
 intro ah s σ H x v vl vu lo hi sl Q I rx hs pl pu h;obtain⟨a,xs,rfl,hx,q⟩:=h;cases rx;obtain⟨its,r,ht,hz⟩:=I.list hx;have aL:=r.length;refine⟨"list",_,slot_list_getitem.lookup,ht.isList.typeIs,?_⟩;refine wpAny_getItem_list_slice ht.isList hs pl pu .none ⋯ ?_ (by rw[dC] <;> lia)
 rw[qw,<- aL];refine⟨.ref s⁻¹,_,I.laid (t':=s.toks) (o:=.lst (sD xs lo hi)) (λb ob q=>bP _ q) (dS _) ?_,rfl,q _ (I.hok.fresh (dS _))⟩
 exact⟨i5 (mq xs lo hi) hz,_,0,(r.drop (HT.bR xs.length 0 lo)).take (HT.bR xs.length xs.length hi - HT.bR xs.length 0 lo),eJ _ rfl⟩
theorem sJ:fC X (.type "list") (λxs H Q=>∃p ys,xs=[.ref p]/\(bZ X.K H p ys\/g7 X.K H p ys)/\∀l,H l=none->Q (.ref l) (upd H l (.lst ys))):=by
 intro ah s σ H xs us Q I r h;obtain⟨p,ys,rfl,hq,q⟩:=h;obtain⟨u,rfl,rx⟩:=vals1 r;cases rx;have fin:∀(its:List Value),Vals ys its->ys.length<=sizeLine->∀(h':Heap) (c':Nat),(∀b o',s.heap.get? b=some o'->h'.get? b=some o')->
   h'.get? s⁻¹=some { cls:=.type "list",dict:=none,data:=.seq its.toArray c',slots:=#[]}->EP X ah σ Q (.ref s⁻¹) { s with heap:=h'}:=λits r' hz h' c' kp e=>
  ⟨.ref s⁻¹,_,I.laid (t':=s.toks) kp (dS _) (show cY X.prog X.w _ h' _ (.lst ys)from⟨hz,its,c',r',e⟩),rfl,q _ (I.hok.fresh (dS _))⟩
 rcases hq with hq |hq
 . obtain⟨its,r',pl,hz⟩:=I.list hq;have aL:=r'.length;obtain⟨o,ho,hc,n,hd⟩:=pl.isList;exact call_list_seq p (.inl rfl) ho hc hd (λh' c' kp e=>fin its r' hz h' c' kp e) (by simp only[dC] <;> lia)
 . obtain⟨its,r',pl,hz⟩:=I.tuple hq;have aL:=r'.length;obtain⟨o,ho,hc,n,hd⟩:=pl;exact call_list_seq p (.inr rfl) ho hc hd (λh' c' kp e=>fin its r' hz h' c' kp e) (by simp only[dC] <;> lia)
theorem qz:fC X (.type "tuple") (λxs H Q=>∃p ys,xs=[.ref p]/\((bZ X.K H p ys/\∀l,H l=none->Q (.ref l) (upd H l (.tup ys)))\/(g7 X.K H p ys/\Q (.ref p) H))):=by
 intro ah s σ H xs us Q I r h;obtain⟨p,ys,rfl,h⟩:=h;obtain⟨u,rfl,rx⟩:=vals1 r;cases rx;rcases h with ⟨hq,q⟩ |⟨hq,q⟩
 .
  obtain⟨its,r',pl,hz⟩:=I.list hq;have aL:=r'.length;refine call_tuple_list pl.isList (λh' kp=>?_) (by simp only[dC] <;> lia)
  have I1:Inv X ah σ H { s with heap:=h'}:=I.kept (t':=s.toks) kp;have I2:Inv X ah σ (upd H h'.objs.size (.tup ys)) { s with heap:=h'.push { cls:=.type "tuple",data:=.seq its.toArray}}:=
   I1.laid (t':=s.toks) (λb o e=>bP _ e) (dS _) (show cY X.prog X.w _ _ _ (.tup ys)from⟨hz,its,r',fJ.new _ _⟩)
  exact⟨.ref h'.objs.size,_,I2,rfl,q _ (I1.hok.fresh (dS _))⟩
 . obtain⟨its,r',pl,hz⟩:=I.tuple hq;exact call_tuple_same pl ⟨.ref p,H,I,rfl,q⟩
def tyV(K:Frag)(T:String)(x:V)(H:Hp):Prop:=match x with
 |.str _=>T = "str"
 |.int _=>T = "int"
 |.ref p=>(T = "list" /\∃xs,bZ K H p xs)\/(T = "tuple" /\∃o,K.lookup p=some o/\o.cls=.type "tuple" /\o.dict=none)\/
   (T = "dict" /\((∃ju,H p=some (.dK ju))\/∃ju,H p=some (.dT ju)))\/(T = "set" /\∃S n,H p=some (.set S n))
 |_=>False
theorem Qd{ah:List (Addr×Obj)}{σ:St}{H:Hp}{s:Shared}{T:String}{x:V}{v:Value}(I:Inv X ah σ H s)(r:RelV x v)(ty:tyV X.K T x H) :
  s.TypeIs v T/\∀a,v=.ref a->∃ob,s.heap.get? a=some ob/\ob.dict=none:=by
 cases x with
 |str z=>
  obtain⟨t,rfl⟩:=r;cases (show T = "str" from ty)
  exact⟨typeIs_str s z t,λ_ e=>nomatch e⟩
 |int i=>
  obtain⟨t,rfl⟩:=r;cases (show T = "int" from ty)
  exact⟨typeIs_int s i t,λ_ e=>nomatch e⟩
 |ref p=>
  cases r;rcases ty with ⟨rfl,xs,hq⟩ |⟨rfl,o,hk,hc,hd⟩ |⟨rfl,hk⟩ |⟨rfl,S,n,hk⟩
  .
   obtain⟨its,_,pl,_⟩:=I.list hq;refine⟨pl.isList.typeIs,λa e=>?_⟩
   cases e;obtain⟨o,n,e,c,hd,_⟩:=pl;exact⟨o,e,hd⟩
  .
   refine⟨⟨o,I.nB p o hk,hc⟩,λa e=>?_⟩
   cases e;exact⟨o,I.nB _ o hk,hd⟩
  .
   have z:∃o,s.heap.get? p=some o/\o.ExactDict:=by
    rcases hk with ⟨ju,hk⟩ |⟨ju,hk⟩
    . obtain⟨_,_,_,_,o,_,_,e,ex,_⟩:=I.hok p _ hk;exact⟨o,e,ex⟩
    . obtain⟨_,_,_,_,o,_,_,e,ex,_⟩:=I.hok p _ hk;exact⟨o,e,ex⟩
   obtain⟨o,e,ex⟩:=z;refine⟨⟨o,e,ex.1⟩,λa e2=>?_⟩
   cases e2;exact⟨o,e,ex.2.1⟩
  .
   obtain⟨o,_,_,_,e,ex,_⟩:=I.hok p _ hk;refine⟨⟨o,e,ex.1⟩,λa e2=>?_⟩
   cases e2;exact⟨o,e,ex.2.1⟩
 |_=>exact False.elim ty
def tBM(K:Frag)(T:String)(r:V->List V->Hp->VK->Prop)(to:TE)(t:TA):TE:=λσ H Q=>to σ H λx H1=>tyV K T x H1/\t σ H1 λxs H2=>r x xs H2 Q
variable{o e:Expr}{es:List Expr}{to:TE}{t:TA}{name:Str}{bG aR:Pos}{T id:String}{r:V->List V->Hp->VK->Prop}
theorem uL(pa:PlainAttrs T)(slot:Slot T name id)(hty:typeOf (.builtin id)=pure (.type "method_descriptor"))(hm:MtR X id r)(ho:PE X o to)(ha:PA X (e::es) t)
  (hbase:attributeBase o name X.env (eval o X.env)=eval o X.env:=by rfl)
  (hfew:((backTo aR (starEach (e::es) X.env)).all (λx=>!x.1)&&(backToKw aR (keywordEach [] X.env)).all (λx=>x.1.isSome)
   && decide ((e::es).length+([]:List Keyword).length+(if ([]:List Keyword).isEmpty then 0 else 1)<30))=true:=by rfl)
  (hline:(bG.endLine==aR.line)=true:=by rfl) (hs:starEach (e::es) X.env=(false,eval e X.env)::starEach es X.env:=by rfl) (hplain:(backTo aR (starEach es X.env)).any (·.1)=false:=by rfl) :
  PE X (.Call (.Attribute o name bG) (e::es) [] aR) (tBM X.K T r to t):=by
 intro ah s σ H Q I h;refine wpAny_Call_method_late hbase hfew hline rfl (bL (ho ah s σ H _ I h) λv s1 ⟨x,H1,I1,r1,ty,q1⟩=>?_)
 obtain⟨h1,h2⟩:=Qd I1 r1 ty;refine⟨T,id,pa,slot,hty,h1,h2,?_⟩;have hA:=ha aR ah s1 σ H1 _ I1 q1;rw[hs]at hA ⊢
 refine Calls.callWith_builtin (by show (false||(backTo aR (starEach es X.env)).any (·.1))=false;rw[hplain] <;> rfl) (Calls.evalArgs_plain ?_)
 exact bL hA λus s2 ⟨vs,H2,I2,r2,q2⟩=>hm ah s2 σ H2 x vs v us Q I2 r1 r2 q2
/- xs.append(e),list.index on a module's tuple .. are MtR facts of 06m -/
end
def MtM(X:Cx)(id:String)(r:V->List V->Hp->VK->Prop):Prop:=
 ∀(ah:List (Addr×Obj)) (s:Shared) (σ:St) (H:Hp) (x:V) (xs:List V) (v:Value) (us:List Value) (Q:VK),Inv X ah σ H s->RelV x v->Vals xs us->r x xs H Q->
  wpAny (model X.prog X.w) X.A (call (.builtin id) (v::us)) (EP X ah σ Q) X.xe s
theorem Vals.one:∀{x:V}{us:List Value},Vals [x] us->∃u,us=[u]/\RelV x u
 |_,_,.cons r .nil=>⟨_,rfl,r⟩
theorem Vals.eraseIdx:∀{xs:List V}{us:List Value} (i:Nat),Vals xs us->Vals (xs.eraseIdx i) (us.eraseIdx i)
 |_,_,_,.nil=>.nil
 |_,_,0,.cons _ t=>t
 |_,_,i+1,.cons r t=>.cons r (Vals.eraseIdx i t)
theorem Vals.rep(h:Vals xs us):∀k:Nat,Vals (List.replicate k xs).flatten (List.replicate k us).flatten
 | 0=>.nil
 |k+1=>by
  rw[oI,oI,x5,x5];exact Vals.append h (Vals.rep h k)
theorem rm{α:Type}:∀(l:List α) (i:Nat),(l.eraseIdx i).length<=l.length
 | [],_=>dS _
 |_::_,0=>AQ _
 |_::r,i+1=>Nat.succ_le_succ (rm r i)
theorem foldl_rep(its:List Value):∀(k:Nat) (acc:List Value),
  List.foldl (λx1 x2=>x1++x2) acc.toArray (List.replicate k its.toArray)=(acc++(List.replicate k its).flatten).toArray
 | 0,acc=>by simp
 |k+1,acc=>by
  have e:acc.toArray++its.toArray=(acc++its).toArray:=by simp
  have e2:(acc++its)++(List.replicate k its).flatten=acc++(List.replicate (k+1) its).flatten:=by rw[oI,x5,AT]
  rw[<- e2,<- foldl_rep its k (acc++its),<- e,oI,List.foldl_cons]
section
variable{X:Cx}{ah:List (Addr×Obj)}{σ:St}{H:Hp}{s:Shared}{l b:Addr}{xs ys zs:List V}
theorem Inv.Qe{its its':List Value}{n:Nat}{f:Array Value->Array Value}{t':Nat}(I:Inv X ah σ H s)(hH:H l=some (.lst xs))
  (e:s.heap.get? l=some { cls:=.type "list",data:=.seq its.toArray n}) (hf:f its.toArray=its'.toArray) (hv:Vals ys its') (hz:ys.length<=sizeLine) :
  Inv X ah σ (upd H l (.lst ys)) { s with heap:=s.heap.update l (Obj.mapSeq f),toks:=t'}:=by
 have q:=PySem.IsL.update e f;rw[hf]at q;refine I.write (x:=l) (e:=l) (by rw[hH];exact trivial) (.inl rfl) (λb' u hb hu=>(i9 s.heap (Obj.mapSeq f) (mP hb)).trans hu) ⟨_,q⟩ ?_
 exact⟨hz,its',_,hv,q⟩
theorem Inv.WD(I:Inv X ah σ H s)(hv:Vals ys its)(hz:ys.length<=sizeLine) :
  Inv X ah σ (upd H s⁻¹ (.lst ys)) { s with heap:=s.heap.push { cls:=.type "list",data:=.seq its.toArray},toks:=t'}:=
 I.laid (λ_ _ q=>bP _ q) (dS _) ⟨hz,its,0,hv,eJ _ rfl⟩
theorem Inv.fresh(I:Inv X ah σ H s):H s⁻¹=none:=I.hok.fresh (dS _)
theorem Inv.wY(I:Inv X ah σ H s)(hH:H l=some (.lst xs)):xs.length<=sizeLine/\∃(its:List Value) (n:Nat),Vals xs its/\xs.length=its.length/\s.heap.get? l=some { cls:=.type "list",data:=.seq its.toArray n}:=by obtain⟨z,its,n,r,e⟩:=I.hok l _ hH;exact⟨z,its,n,r,r.length,e⟩
theorem uM(h:n<=sizeLine):Builtin.List.listTooLong n=false:=by unfold Builtin.List.listTooLong;exact t7 ⋯
end
section
variable{X:Cx}
def JQ:V->List V->Hp->VK->Prop:=λx vs H Q=>∃l xs y,x=.ref l/\vs=[y]/\H l=some (.lst xs)/\xs.length<sizeLine/\Q .non (upd H l (.lst (xs++[y])))
theorem iR:MtM X "list.append" JQ:=by
 intro ah s σ H x vs v us Q I rx rv h;obtain⟨l,xs,y,rfl,rfl,hH,hz,q⟩:=h;cases rx;obtain⟨u,rfl,ru⟩:=rv.one;obtain⟨z,its,n,r,hl,e⟩:=I.wY hH;refine call_meets F.slot_list_append ⟨_,e,rfl⟩ F.entry_list_append (F.args_list_append_2 _ _) (PySem.list_append l its.toArray n u (by rw[dC];lia)) ⟨e,?_⟩
 refine⟨.non,_,I.Qe (its':=its++[u]) hH e ⋯ (r.append (.cons ru .nil)) ?_,rfl,q⟩;rw[eR,t8];lia
def JR:V->List V->Hp->VK->Prop:=λx vs H Q=>∃l b xs zs,x=.ref l/\vs=[.ref b]/\H l=some (.lst xs)/\H b=some (.lst zs)/\xs.length+zs.length<=sizeLine/\Q .non (upd H l (.lst (xs++zs)))
theorem Ao:MtM X "list.extend" JR:=by
 intro ah s σ H x vs v us Q I rx rv h;obtain⟨l,b,xs,zs,rfl,rfl,hH,hB,hz,q⟩:=h;cases rx;obtain⟨u,rfl,ru⟩:=rv.one;cases ru;obtain⟨z,its,n,r,hl,e⟩:=I.wY hH;obtain⟨z2,kM,n2,r2,hl2,e2⟩:=I.wY hB;have jk:its.toArray.size+kM.toArray.size<=sizeLine:=by rw[dC,dC];lia
 have Eg : ¬ (!its.toArray.isEmpty&&Builtin.List.listTooLong (its.toArray.size+kM.toArray.size))=true:=by rw[uM jk,Bool.and_false];exact lL
 refine call_meets F.slot_list_extend ⟨_,e,rfl⟩ F.entry_list_extend (F.args_list_extend_2 _ _)
  (AutoSeq1.list_extend_list_list_0 l its.toArray n b kM.toArray n2 Eg (by rw[dC];lia) ⋯) ⟨e,e2,?_⟩
 refine⟨.non,_,I.Qe (its':=its++kM) hH e ⋯ (r.append r2) ?_,rfl,q⟩;rw[eR];lia
def Qf:V->List V->Hp->VK->Prop:=λx vs H Q=>∃l xs i k y,x=.ref l/\vs=[.int i]/\H l=some (.lst xs)/\-(2 ^ 63)<=i/\i<2 ^ 63/\seqIndex? i xs.length=some k/\xs[k]?=some y/\Q y (upd H l (.lst (xs.eraseIdx k)))
theorem Eh:MtM X "list.pop" Qf:=by
 intro ah s σ H x vs v us Q I rx rv h;obtain⟨l,xs,i,k,y,rfl,rfl,hH,h1,h2,hk,hy,q⟩:=h;cases rx;obtain⟨u,rfl,ru⟩:=rv.one;obtain⟨t,rfl⟩:=ru;obtain⟨z,its,n,r,hl,e⟩:=I.wY hH;obtain⟨w,hw,rw'⟩:=r.get hy;refine call_meets F.slot_list_pop ⟨_,e,rfl⟩ F.entry_list_pop (F.args_list_pop_2 _ _)
  (MeetsSeq.list_pop_at l its.toArray n i t k w (fitsIndex_both h1 h2) (by rw[dC,<- hl];exact hk) (by rw[<- B0];exact hw) (by rw[dC];lia)) ⟨e,?_⟩
 refine⟨y,_,I.Qe (its':=its.eraseIdx k) hH e ?_ (r.eraseIdx k) ?_,rw',q⟩
 . show its.toArray.eraseIdxIfInBounds k=(its.eraseIdx k).toArray;rw[List.eraseIdxIfInBounds_toArray]
 . have:=rm xs k;lia
def rCat:R2:=λx y H Q=>∃l b xs zs,x=.ref l/\y=.ref b/\H l=some (.lst xs)/\H b=some (.lst zs)/\xs.length+zs.length<=sizeLine/\∀p,H p=none->Q (.ref p) (upd H p (.lst (xs++zs)))
theorem Qg:mY X (binaryOp .Add) rCat:=by
 intro ah s σ H x y v u Q I rx ry h;obtain⟨l,b,xs,zs,rfl,rfl,hH,hB,hz,q⟩:=h;cases rx;cases ry;obtain⟨z,its,n,r,hl,e⟩:=I.wY hH;obtain⟨z2,kM,n2,r2,hl2,e2⟩:=I.wY hB;refine PySem.P.add_list e e2 ?_ (by rw[dC,dC];lia)
 have ea:its.toArray++kM.toArray=(its++kM).toArray:=by simp
 rw[ea];exact⟨.ref _,_,I.WD (t':=s.toks) (r.append r2) (by rw[eR];lia),rfl,q _ I.fresh⟩
def rRep:R2:=λx y H Q=>∃l k xs,x=.ref l/\y=.int k/\H l=some (.lst xs)/\-(2 ^ 63)<=k/\k<2 ^ 63/\xs.length * k.toNat<=sizeLine/\
 ∀p,H p=none->Q (.ref p) (upd H p (.lst (List.replicate k.toNat xs).flatten))
theorem len_rep{α:Type}(xs:List α)(k:Nat):(List.replicate k xs).flatten.length=k * xs.length:=by
 induction k with
 |zero=>simp
 |succ k ih=>rw[oI,x5,eR,ih,CH,Nat.add_comm]
theorem Qh:mY X (binaryOp .Mult) rRep:=by
 intro ah s σ H x y v u Q I rx ry h;obtain⟨l,k,xs,rfl,rfl,hH,h1,h2,hz,q⟩:=h;cases rx;obtain⟨t,rfl⟩:=ry;obtain⟨z,its,n,r,hl,e⟩:=I.wY hH;have aL:its.toArray.size * k.toNat<=sizeLine:=by rw[dC,<- hl];exact hz
 have hcap : ¬ its.toArray.size * k.toNat > (2 ^ 63 - 1) / 8:=by
  have:(sizeLine:Nat)<=(2 ^ 63 - 1) / 8:=by decide
  lia
 have hfit : ¬ (!Builtin.List.listFitsIndex k)=true:=by rw[fitsIndex_both h1 h2];exact lL
 have Eg : ¬ Builtin.List.listTooLong (its.toArray.size * k.toNat)=true:=by rw[uM aL];exact lL
 have hnew:List.foldl (λx1 x2=>x1++x2) #[] (List.replicate (if its.toArray.isEmpty=true then 0 else k.toNat) its.toArray)=(List.replicate k.toNat its).flatten.toArray:=by
  have f0:∀m:Nat,List.foldl (λx1 x2=>x1++x2) #[] (List.replicate m its.toArray)=(List.replicate m its).flatten.toArray:=λm=>by
   have:=foldl_rep its m [];rw[AD]at this;exact this
  rw[f0];cases its with
  |nil=>simp
  |cons a r'=>rw[gN ⋯]
 refine wpAny_binaryOp_repeat_ref (T:= "list") (U:= "int") ⋯ ⟨_,e,rfl⟩ (λs'=>typeIs_int s' k t) noFill_list_mul F.fills_int_mul F.slot_int_rmul repeat_list F.slot_int_index.lookup
  (call_meets F.slot_int_rmul (typeIs_int s k t) F.entry_int_rmul (F.args_int_rmul_2 _ _) (int___rmul___int_list k t l its.toArray n)
   ⟨e,rfl,⟨_,e,rfl⟩,call_meets F.slot_list_mul ⟨_,e,rfl⟩ F.entry_list_mul (F.args_list_mul_2 _ _) (AutoListH.list___mul___list_int_3 l its.toArray n k t hfit hcap Eg) ⟨e,?_⟩⟩)
 rw[hnew];exact⟨.ref _,_,I.WD (t':=s.toks) (r.rep k.toNat) (by rw[len_rep,Nat.mul_comm];exact hz),rfl,q _ I.fresh⟩
end
end L2
namespace Att
open PySem PySem.W PySem.Calls PyProof.Rows
theorem mZ:∀(ns:List Int) (vs:List Value),WellAll P h vs (ns.map WData.int)->IntsAre vs ns:=by
 intro ns
 induction ns with
 |nil=>intro vs w;rw[List.map_nil]at w;cases w;exact .nil
 |cons n ns ih=>
  intro vs w;rw[List.map_cons]at w;cases w with
  |cons a b=>cases a;exact .cons _ _ (ih _ b)
theorem Aq{l:OpenLaw}{n:Nat}(hn:l.most=some n){P:Params}{h:Heap}{args:List WData}{vals:List Value}
  (hpre:l.row.toRowW.claim.pre args=true) (hwl:WellAll P h vals args) :
  ∃a vs ns,vals=[Value.ref a]/\args=[WData.list (ns.map WData.int)]/\h.get? a=some { cls:=.type "list",data:=.seq vs.toArray}/\IntsAre vs ns/\ns.length<=n:=by
 have hsh:WShape.hasAll [] args [.list .int]=true:=(pre_splitW hpre).1;have hc:l.pre.holds [] { args:=args}=true:=(pre_splitW hpre).2;obtain⟨d,r,rfl,h1,h2⟩:=hasAllW_cons hsh;obtain rfl:=hasAllW_nil h2;obtain⟨xs,rfl,h3⟩:=hasW_list h1;obtain⟨ns,rfl⟩:=items_int h3;have aL:ns.length<=n:=by
  unfold OpenLaw.pre at hc;have h4:(WTm.not (.lt (.lit (.int (n:Int))) (.len (.arg 0)))).holds [] { args:=[.list (ns.map .int)]}=true:=by have h4:=(holds_andW hc).1;rw[hn]at h4;exact h4
  have h5:=condW_of h4 (w_not (w_lt w_lit (w_len_list (w_arg rfl))));rw[fR]at h5;refine Nat.le_of_not_lt λq=>?_
  have q':(n:Int)<((ns.length:Nat):Int):=by lia
  first
   | (rw[xI q']at h5;exact absurd h5 ⋯)
   | (simp at h5;lia)
 cases hwl with
 |cons w1 w2=>
  cases w2;cases w1 with
  |list ho hall=>exact⟨_,_,ns,rfl,rfl,ho,mZ ns _ hall,aL⟩
theorem Ar(l:OpenLaw)(args:List WData):l.row.toRowW.claim.post args (.bool true) args=true:=
 postW_of (r:=l.row.toRowW) (X:=(true==true))
  (show WShape.has [] (.bool true) .bool=true by first |rfl |decide |simp[WShape.has,WShape.arms,WShape.armsAll])
  (show (WTm.eq .res (.lit (.bool true))).value [] { args:=args,res:=some (.bool true),after:=args}=some (.bool (true==true))from w_eq_bool (w_res rfl) w_lit) rfl
theorem uN{l:OpenLaw}{n:Nat}{q:Program}{loose:List Str}{XP:(Str->Option Value)->Heap->Prop}{YP:World->Heap->Prop}{d:DefRec}
  (hn:l.most=some n) (gY:d.params.defaults=[])
  (call:∀(w:World) (s₀ s₁:Shared) (mg mb:Str->Option Value) (fa:Addr) (o:Obj) (pm cd doc:Value) (a:Addr) (vs:List Value) (ns:List Int),
   Ground q loose [] XP w s₀ mg mb s₁.heap->YP w s₁.heap->
   s₁.heap.get? fa=some o->o.data=.func (docDef d.name d.params d.body d.scope pm cd doc)->s₁.heap.CodeRec cd d.name->mg d.name=some (.ref fa)->
   s₁.heap.get? a=some { cls:=.type "list",data:=.seq vs.toArray}->IntsAre vs ns->ns.length<=n->s₁.gens = #[]->
   codeAny (model l.prog w) callerA (.call (.ref fa) ⟨[.ref a],[]⟩) (λr s'=>r=.ok (.ret (.bool true))/\OldK s₁.heap s'.heap/\s'.os=s₁.os/\AllBare s'.gens) s₁) :
  WalkO q loose XP YP l.row.toRowW d [] (λf vs=>PySem.call f vs):=by
 intro w s₀ s₁ mg mb G Y fa o pm cd doc dV kV ho hd bE hD hmg hg args vals as hpre hlay hrd hwl hlo;obtain rfl:dV=.none:=Dflts.none hD gY;obtain rfl:kV=.none:=Dflts.noKw hD;obtain⟨a,vs,ns,rfl,rfl,hobj,hints,aL⟩:=Aq hn hpre hwl;refine enter_call (A7 (call w s₀ s₁ mg mb fa o pm cd doc a vs ns G Y ho (fd_plain hd) bE hmg hobj hints aL hg) λr s' hq=>?_)
 obtain⟨rfl,h2,h3,h4⟩:=hq;exact⟨.inl ⟨.bool true,.bool true,[],rfl,λ_=>rfl,.bool true,Ar l _,λ_=>⟨List.Pairwise.nil,λ_ hm=>(nomatch hm)⟩⟩,h2,h3,h4⟩
end Att
namespace L2
theorem kW:∀{vs:List Value}{ns:List Int},IntsAre vs ns->Vals (ns.map V.int) vs
 |_,_,.nil=>.nil
 |_,_,.cons n t h=>.cons ⟨t,rfl⟩ (kW h)
abbrev KOf{K:Frag}{h:Heap}(_:K.In h):Frag:=K
abbrev uB:Al:=λ_ _ _ _ _ _=>False
abbrev E0:XK:=λ_ _ _=>False
theorem N4:Passes uB X E0:=λ_ _ _ _ _ _ _ h=>h.elim
structure Jk(K:Frag)(x qual:Str)(st:Stmt)(f:Addr)(fd:FuncData):Prop where
 ex:∃(oc:Value) (od:Option Addr) (kV doc pm:Value) (an:Option Addr) (bD ct:Value) (osl:Array (Option Value)),
  fd=PySem.W.fnOf x qual (iP st) (bA st) (aE st) .none kV doc pm an bD ct/\K.lookup f=some ⟨oc,od,.func fd,osl⟩/\PySem.W.codeIn K bD qual=true
 kp:PySem.W.keepIn K (.ref f)=true
section
variable{P:Program}{w:World}{K:Frag}{mg:Str->Option Value}{base:Heap}
theorem Qi{x qual:Str}{st:Stmt}{f:Addr}{oc:Value}{od an:Option Addr}{osl:Array (Option Value)}{kV doc pm bD ct:Value}(l:K.lookup f=some ⟨oc,od,.func (PySem.W.fnOf x qual (iP st) (bA st) (aE st) .none kV doc pm an bD ct),osl⟩)
  (c:PySem.W.codeIn K bD qual=true) (k:PySem.W.keepIn K (.ref f)=true):Jk K x qual st f (PySem.W.fnOf x qual (iP st) (bA st) (aE st) .none kV doc pm an bD ct):=⟨⟨oc,od,kV,doc,pm,an,bD,ct,osl,rfl,l,c⟩,k⟩
end
theorem ng{A B:Prop}(h:B):if false=true then A else B:=by rw[gN lL];exact h
theorem jw{A B:Prop}(h:A):if true=true then A else B:=by rw[fN rfl];exact h
noncomputable def Cx.block(X:Cx)(N:List Str)(scope:Scope)(cl:List (Str×Addr))(C:Addr)(s₀:Shared)(H₀:Hp)(fp:List Addr):Cx:=
 { X with N:=N,s₀:=s₀,H₀:=H₀,env:=compEnvC scope cl C X.env,outer:=X.stack,ex:=fp,fn:=λx=>scope.names.lookup x==some .local,pn:=[],xe:=λ_ _=>False}
structure Bk where
 cl:List (Str×Addr)
 C:Addr
 s₀:Shared
 H₀:Hp
 fp:List Addr
abbrev Cx.blk (X:Cx) (N:List Str) (scope:Scope) (b:Bk):Cx:=X.block N scope b.cl b.C b.s₀ b.H₀ b.fp
structure aM(sc scope:Scope):Prop where
 kind:scope.kind=.function
 sL:∀y∈scope.names,y.2≠.cell
 uniq:∀y∈scope.names,y.2=.local->scope.names.lookup y.1=some .local
 WK:∀y∈scope.names,y.2=.free->scope.names.lookup y.1=some .free
 free:∀y∈scope.names,y.2=.free->sc.names.lookup y.1=some .cell\/sc.names.lookup y.1=some .free
theorem mem_of_lookup{α:Type}{x:Str}{v:α}:∀{l:List (Str×α)},l.lookup x=some v->(x,v)∈l
 | [],h=>by simp at h
 | (n,k)::r,h=>by
  cases hx:x==n with
  |true=>
   simp only[o0,hx]at h;cases h;have e:x=n:=by simpa using hx
   subst e;exact dA
  |false=>simp only[o0,hx]at h;exact a9 _ (mem_of_lookup h)
theorem ig{env:Env}{x:Str}:∀{names:List (Str×NameKind)},
  (names.map λ(n,k)=>if (k==NameKind.free&&env.scope.kind==.function&&env.kindOf n==some .cell)then (n,NameKind.cell)else (n,k)).lookup x
   = (names.lookup x).map λk=>if (k==NameKind.free&&env.scope.kind==.function&&env.kindOf x==some .cell)then NameKind.cell else k
 | []=>rfl
 | (n,k)::r=>by
  have ih:=@ig env x r;show List.lookup x ((if (k==NameKind.free&&env.scope.kind==.function&&env.kindOf n==some .cell)=true then (n,NameKind.cell)else (n,k))::_)=_
  cases hx:x==n with
  |true=>
   have e:x=n:=by simpa using hx
   subst e;by_cases hc:(k==NameKind.free&&env.scope.kind==.function&&env.kindOf x==some .cell)=true
   . rw[fN hc];simp only[o0,hx,BF,fN hc]
   . rw[gN hc];simp only[o0,hx,BF,gN hc]
  |false=>
   by_cases hc:(k==NameKind.free&&env.scope.kind==.function&&env.kindOf n==some .cell)=true
   . rw[fN hc];simp only[o0,hx];exact ih
   . rw[gN hc];simp only[o0,hx];exact ih
theorem oh(h:∀y∈scope.names,y.2=.free->∃c,env.cells.lookup y.1=some c) :
  ∃cl,closureFor scope env=pure cl/\(∀x c,cl.lookup x=some c->env.cells.lookup x=some c/\(x,NameKind.free)∈scope.names)/\∀y∈scope.names,y.2=.free->∃c,cl.lookup y.1=some c:=by
 have key:∀(names:List (Str×NameKind)) (acc:List (Str×Addr)),(∀y∈names,y.2=.free->∃c,env.cells.lookup y.1=some c)->
   ∃cl,(forIn names acc λ(x:Str×NameKind) (cs:List (Str×Addr))=>(match x with | (name,kind)=>if (kind==.free)=true then (do let c <- cellOf env name;pure (ForInStep.yield ((name,c)::cs)))else pure (ForInStep.yield cs):Sem (ForInStep (List (Str×Addr)))))=pure cl/\
    (∀x c,cl.lookup x=some c->acc.lookup x=some c\/(env.cells.lookup x=some c/\(x,NameKind.free)∈names))/\(∀y∈names,y.2=.free->∃c,cl.lookup y.1=some c)/\∀x c,acc.lookup x=some c->∃c',cl.lookup x=some c':=by
  intro names
  induction names with
  |nil=>intro acc _;exact⟨acc,rfl,λx c e=>.inl e,(λy hy=>nomatch hy),λx c e=>⟨c,e⟩⟩
  |cons y r ih=>
   intro acc hf;obtain⟨n,k⟩:=y;rw[List.forIn_cons];by_cases hk:(k==NameKind.free)=true
   .
    obtain⟨c,hc⟩:=hf (n,k) dA (by simpa using hk)
    have hc':env.cells.lookup n=some c:=hc;obtain⟨cl,e,h1,h2,h3⟩:=ih ((n,c)::acc) λy hy=>hf y (a9 _ hy)
    refine⟨cl,?_,λx c' q=>?_,λy hy Zt=>?_,λx c' q=>?_⟩
    .
     have ec:cellOf env n=pure c:=by unfold cellOf;rw[hc']
     show ((if (k==NameKind.free)=true then (do let c <- cellOf env n;pure (ForInStep.yield ((n,c)::acc)))else pure (ForInStep.yield acc)) >>= _)=_
     rw[fN hk,ec];exact e
    .
     rcases h1 x c' q with z |⟨z1,z2⟩
     .
      cases hx:x==n with
      |true=>
       simp only[o0,hx]at z;cases z;have e:x=n:=by simpa using hx
       subst e;have ek:k=NameKind.free:=by simpa using hk
       subst ek;exact .inr ⟨hc',dA⟩
      |false=>simp only[o0,hx]at z;exact .inl z
     . exact .inr ⟨z1,a9 _ z2⟩
    .
     rcases d6.mp hy with rfl |hy
     . exact h3 n c ⋯
     . exact h2 y hy Zt
    .
     cases hx:x==n with
     |true=>
      have e:x=n:=by simpa using hx
      subst e;exact h3 x c ⋯
     |false=>exact h3 x c' (by simp only[o0,hx];exact q)
   .
    obtain⟨cl,e,h1,h2,h3⟩:=ih acc λy hy=>hf y (a9 _ hy)
    refine⟨cl,?_,λx c' q=>?_,λy hy Zt=>?_,h3⟩
    .
     show ((if (k==NameKind.free)=true then (do let c <- cellOf env n;pure (ForInStep.yield ((n,c)::acc)))else pure (ForInStep.yield acc)) >>= _)=_
     rw[gN hk];exact e
    .
     rcases h1 x c' q with z |⟨z1,z2⟩
     . exact .inl z
     . exact .inr ⟨z1,a9 _ z2⟩
    .
     rcases d6.mp hy with rfl |hy
     . exact absurd Zt (by simpa using hk)
     . exact h2 y hy Zt
 obtain⟨cl,e,h1,h2,_⟩:=key scope.names [] h;refine⟨cl,?_,λx c q=>?_,h2⟩
 . exact (congrArg (λ(m:Sem (List (Str×Addr)))=>m >>= λcs=>pure cs) e:_)
 .
  rcases h1 x c q with z |z
  . simp at z
  . exact z
def kX(X:Cx)(ifs:List Expr)(t:TT):Prop:=
 ∀(ah:List (Addr×Obj)) (s:Shared) (σ:St) (H:Hp) (Q:Bool->Hp->Prop),Inv X ah σ H s->t σ H Q->
  wpAny (model X.prog X.w) X.A (forIn ifs true λc r=>if r=true then do let ok <- isTrue c X.env (eval c X.env);pure (ForInStep.yield ok)else pure (ForInStep.yield r)) (TP X ah σ Q) X.xe s
def Ei:TT:=λ_ H Q=>Q true H
theorem oq:kX X [] Ei:=λ_ _ _ H _ I h=>wpAny_tests_nil ⟨H,I,h⟩
theorem Ej(h:PT X c t):kX X [c] t:=λah s σ H Q I hw=>wpAny_tests_one (h ah s σ H Q I hw)
noncomputable def wZ(e target iter:Expr)(ifs:List Expr)(d:Nat)(it acc:Value)(env:Env)(em:Sem Unit):Sem Fin:=do
 standAt iter.pos
 match <- pyNext it with
 |none=>pure (.done .next)
 |some v=>
  letOwnedTupleGo target it v
  assign target env v
  let mut ok:=true
  for c in ifs do
   if ok then ok <- isTrue c env (eval c env)
  if ok then em
  again (.compLoop e d it acc env)
theorem jY(ht:compTurn (.ListComp bH gens scope pos) d it acc env=wZ (.ListComp bH gens scope pos) target iter ifs d it acc env em)(I:Nat->Shared->Prop)
  (turn:∀n s,I n s->wpAny (model prog w) A (pyNext it) (λr s₁=>match r with
   |none=>R (.ok .next) s₁
   |some v=>wpAny (model prog w) A (letOwnedTupleGo target it v) (λ_ s₁'=>wpAny (model prog w) A (assign target env v) (λ_ s₂=>
     wpAny (model prog w) A (forIn ifs true λc r=>if r=true then do let ok <- isTrue c env (eval c env);pure (ForInStep.yield ok)else pure (ForInStep.yield r)) (λok s₃=>
      if ok=true then wpAny (model prog w) A em (λ_ s₅=>∃m,m<n/\I m s₅) (λ_ _=>False) s₃
      else ∃m,m<n/\I m s₃) (λ_ _=>False) s₂) (λ_ _=>False) s₁') (λ_ _=>False) s₁) (λ_ _=>False) s)
  (n:Nat) (h:I n s) :
  codeAny (model prog w) A (.compLoop (.ListComp bH gens scope pos) d it acc env) R s:=by
 refine codeAny_loop rfl I (λn s hI=>?_) n h
 show wpAny _ A ((compTurn (.ListComp bH gens scope pos) d it acc env).onRaise (λx=>do noteFrame x env;theTreesLotGoes x)) _ _ s
 refine wpAny_noted ?_;rw[ht];refine aS (AG (aS (l5 (turn n s hI) (λr s₁ h₁=>?_) λ_ _ h'=>h'.elim)))
 cases r with
 |none=>exact dE h₁
 |some v=>
  refine aS (l5 h₁ (λ_ s₁' h₁'=>?_) λ_ _ h'=>h'.elim)
  refine aS (l5 h₁' (λ_ s₂ h₂=>aS (l5 h₂ (λok s₃ h₃=>?_) λ_ _ h'=>h'.elim)) λ_ _ h'=>h'.elim)
  cases ok with
  |false=>exact dE ⟨rfl,h₃⟩
  |true=>exact aS (l5 h₃ (λ_ s₅ h₅=>dE ⟨rfl,h₅⟩) λ_ _ h'=>h'.elim)
abbrev TU:=St->Hp->(St->Hp->Prop)->Prop
def PU(X:Cx)(m:Sem Unit)(t:TU):Prop:=
 ∀(ah:List (Addr×Obj)) (s:Shared) (σ:St) (H:Hp) (Q:St->Hp->Prop),Inv X ah σ H s->t σ H Q->wpAny (model X.prog X.w) X.A m (λ_ s'=>∃σ' H',Inv X ah σ' H' s'/\Q σ' H') (λ_ _=>False) s
def qA(D:Addr)(te:TE):TU:=λσ H Q=>te σ H λv H5=>∃ys,H5 D=some (.lst ys)/\ys.length<sizeLine/\Q σ (upd H5 D (.lst (ys++[v])))
theorem xg(he:PE X bH te)(hx:X.xe=λ_ _=>False):PU X (do let _ <- call (.builtin "list.append") [.ref D,<- eval bH X.env]) (qA D te):=by
 intro ah s σ H Q I h;have he:=he ah s σ H _ I h;rw[hx]at he;refine aS (l5 he (λy s8 ⟨v,H8,I8,r8,ys,hD8,hz8,q8⟩=>?_) λ_ _ z=>z)
 have ma:=iR ah s8 σ H8 (.ref D) [v] (.ref D) [y] (λ_ H9=>Q σ H9) I8 rfl (.cons r8 .nil) ⟨_,ys,v,rfl,rfl,hD8,hz8,q8⟩
 rw[hx]at ma;exact aS (l5 ma (λ_ s9 ⟨_,H9,I9,_,q9⟩=>dE ⟨σ,H9,I9,q9⟩) λ_ _ z=>z)
noncomputable def σC(k:Nat)(D:Addr)(σ:St):St:=σ++(List.replicate k none++[some (.ref D)])
def WL(X:Cx)(σ:St)(b:Bk):Prop:=∃ah,Inv X ah σ b.H₀ b.s₀/\∀a∈b.fp,jT X ah b.H₀ a
def JT(X:Cx)(k:Nat)(g:Bk->TG)(tt:Bk->TT)(te:Addr->Bk->TU)(J:It)(D:Addr)(σ:St)(H1:Hp)(Q:VK):Prop:=
 ∃W:Nat->Nat->St->Hp->Prop,(∃m,W 0 m (σC k D σ) (upd H1 D (.lst [])))/\∀i m σ' H',W i m σ' H'->
  (J.stop i H'/\Q (.ref D) H')\/(J.go i H'/\∃Nn:St->Hp->Prop,(∀Au Av,Nn Au Av->∃m',m'<m/\W (i+1) m' Au Av)/\∀x H2,J.V9 i H' x H2->∀bk:Bk,WL X σ bk->g bk x σ' H2 λσ2 H3=>tt bk σ2 H3 λb H4=>
   if b=true then te D bk σ2 H4 Nn else Nn σ2 H4)
noncomputable def ou(X:Cx)(k:Nat)(wi:TI)(g:Bk->TG)(tt:Bk->TT)(te:Addr->Bk->TU):TE:=λσ H Q=>wi σ H λJ H1=>∀D,H1 D=none->JT X k g tt te J D σ H1 Q
structure Names(N N':List Str)(scope:Scope)(k:Nat):Prop where
 len:N'.length=N.length+(k+1)
 last:∀x,N'[N.length+k]?=some x->scope.names.lookup x=none
 old:∀i x,N'[i]?=some x->i<N.length->scope.names.lookup x=none\/(N[i]?=some x/\scope.names.lookup x≠some .local)
theorem dX:(relabel scope env).names.lookup x=(scope.names.lookup x).map λk=>if (k==NameKind.free&&env.scope.kind==.function&&env.kindOf x==some .cell)then NameKind.cell else k:=ig
section
variable{X:Cx}
theorem ow(B:aM X.env.scope scope)(h:(compEnvC scope cl C X.env).kindOf x=some .cell\/(compEnvC scope cl C X.env).kindOf x=some .free) :
  (x,NameKind.free)∈scope.names:=by
 have e:(compEnvC scope cl C X.env).kindOf x=(scope.names.lookup x).map λk=>if (k==NameKind.free&&X.env.scope.kind==.function&&X.env.kindOf x==some .cell)then NameKind.cell else k:=dX
 rw[e]at h;cases q:scope.names.lookup x with
 |none=>rw[q]at h;rcases h with h |h <;> cases h
 |some k=>
  have hm:=mem_of_lookup q;cases k with
  |free=>exact hm
  |cell=>exact absurd rfl (B.sL _ hm)
  |_=>rw[q]at h;rcases h with h |h <;> (simp at h)
theorem Ek(B:aM X.env.scope scope)(I:Inv X ah σ H s)(hC:s⁻¹<=C)
  (hf:∀b∈fp,jT X ah H b) (hfs:∀b∈fp,b<s⁻¹)
  (hcl:∀x c,cl.lookup x=some c->X.env.cells.lookup x=some c/\(x,NameKind.free)∈scope.names) (JV:∀y∈scope.names,y.2=.free->∃c,cl.lookup y.1=some c):(X.block N' scope cl C s H fp).Ok where
 mod:=I.ok.mod
 kind:=B.kind
 glob:=I.ok.glob
 blt:=I.ok.blt
 above:=hC
 inj:=λx y c h1 h2=>I.ok.inj x y c (hcl x c h1).1 (hcl y c h2).1
 has:=λx h=>JV _ (ow (cl:=cl) (C:=C) B h) rfl
 Ph:=λx c h1 h2=>by
  have e:scope.names.lookup x=some .local:=by have:(scope.names.lookup x==some NameKind.local)=true:=h1;simpa using this
  have h3:=(hcl x c h2).2;have q:=B.WK _ h3 rfl;rw[e]at q;cases q
 hd:=I.ok.hd
 frames:=I.ok.frames
 stk:=.inl rfl
 Va:=λb hb=>⟨l4 (eD (hfs b hb) hC),λx c e=>(hf b hb).2.2.2.2.1 x c (hcl x c e).1⟩
 bs:=I.bs
 DK:=i5 I.ok.DK I.sz
 uF:=λb o e hb=>by
  obtain⟨_,_,_,h3,_⟩:=hf b hb;rcases h3 with h3 |h3
  . exact I.ok.uF b o e h3
  . exact absurd (eD (eP e) (i5 I.ok.DK h3)) (oD _)
 wI:=λb hb hm=>by
  rcases d6.mp (I.wJ b hm)with e |e
  . exact (hf b hb).2.1 e
  . exact (hf b hb).2.2.1 e
 jS:=I.stack
 Jy:=I.r9
theorem iS{ah:List (Addr×Obj)}{σ:St}{H:Hp}{s:Shared}{N':List Str}{k:Nat}{wi:TI}{g:Bk->TG}{tt:Bk->TT}{tu:Addr->Bk->TU}{rest:List Comprehension}{em:Value->Env->Sem Unit}{use:Option (Value->Sem Unit)}{Q:Value->Shared->Prop}{Q0:VK}
  (B:aM X.env.scope scope) (hc:X.calm=true) (hN:Names X.N N' scope k) (hi:PI X tg iter wi) (hturn:∀it acc env,compTurn (.ListComp bH (⟨tg,iter,ifs,0⟩::rest) scope pos) 0 it acc env=wZ (.ListComp bH (⟨tg,iter,ifs,0⟩::rest) scope pos) tg iter ifs 0 it acc env (em acc env))
  (hin:∀(b:Bk) (D:Addr),PG (X.blk N' scope b) tg (g b)/\kX (X.blk N' scope b) ifs (tt b)/\PU (X.blk N' scope b) (em (.ref D) (X.blk N' scope b).env) (tu D b))
  (hs:∀x,foldedSetIterable iter X.env x=pure x) (I:Inv X ah σ H s) (h:ou X k wi g tt tu σ H Q0)
  (fin:∀s' H' D C m,Inv X ah σ H' s'->jT X ah H' C->s'.heap.Ns C m->Q0 (.ref D) H'->compPost (model X.prog X.w) X.A X.xe use Q (.ref D) C (.ok .next) s') :
  wpAny (model X.prog X.w) X.A (comprehension (.ListComp bH (⟨tg,iter,ifs,0⟩::rest) scope pos) scope X.env (firstIterPos (⟨tg,iter,ifs,0⟩::rest) pos) (newList []) false (eval iter X.env) use) Q X.xe s:=by
 obtain⟨cl,hclos,hcl,JV⟩:=oh (scope:=scope) (env:=X.env) λy hy hf=>I.ok.has y.1 (B.free y hy hf)
 refine wpAny_comprehension_free rfl hs hclos B.kind B.uniq (bL (hi ah s σ H _ I h) λxv s₁ h₁=>bL h₁ λitv s₂ h₂=>?_)
 obtain⟨it,fp,tn,J,H2,rfl,I2,T,aK,f2,hW⟩:=h₂;refine n0 (wpAny_newFunctionEnv B.sL (by intro y hy;simp at hy) (λh₁ Qj JW=>?_) B.kind)
 dsimp only at Qj JW ⊢
 generalize hH2:s₂.heap.push { cls:=.type "list",dict:=none,data:=.seq ([]:List Value).toArray}=P2 at Qj JW ⊢
 have hC:P2.objs.size=s₂⁻¹+1:=by rw[<- hH2,xL]
 have hDC:s₂⁻¹≠P2.objs.size:=by rw[hC];exact l4 (y0 _)
 have Qk:s₂⁻¹<=P2.objs.size:=by rw[hC];exact AQ _
 have old:∀b o,s₂.heap.get? b=some o->h₁.get? b=some o:=λb o e=>JW.extBut b o (l4 (by rw[hC];exact Nat.lt_succ_of_lt (eP e))) (bP _ (hH2▸bP _ e))
 have hD0:H2 s₂⁻¹=none:=I2.hok.fresh (dS _);have hC0:H2 P2.objs.size=none:=I2.hok.fresh Qk;have fps:∀b∈fp,b<s₂⁻¹:=λb hb=>by
  obtain⟨o,e,_⟩:=T.obj _ _ aK b hb;exact eP e
 have ok':=Ek (N':=N') (cl:=cl) B I2 Qk f2 fps hcl JV;obtain⟨W,⟨m0,w0⟩,turn⟩:=hW s₂⁻¹ hD0;have fsub:∀b∈fp,b∉frs X.stack:=λb hb=>ok'.wI b hb
 obtain⟨hg,ht,he⟩:=hin ⟨cl,P2.objs.size,s₂,H2,fp⟩ s₂⁻¹;have I0:Inv (X.block N' scope cl P2.objs.size s₂ H2 fp) [] (σC k s₂⁻¹ σ) (upd H2 s₂⁻¹ (.lst [])) { s₂ with heap:=h₁,toks:=s₂.toks+([]:List (Str×Value)).length}:=by
  refine⟨ok',rfl,I2.bare,Un.laid old (dS _) hD0,⟨_,Qj,λi x v e1 e2 e3=>?_⟩,λx c e=>?_,?_,λx c e=>?_,λp hp=>?_,I2.hok.laid old (dS _) ?_,?_⟩
  .
   have WM:(compEnvC scope cl P2.objs.size X.env).kindOf x=some .local\/(compEnvC scope cl P2.objs.size X.env).kindOf x=some .cell\/(compEnvC scope cl P2.objs.size X.env).kindOf x=some .free:=e3;have ek:(compEnvC scope cl P2.objs.size X.env).kindOf x=(scope.names.lookup x).map λk=>if (k==NameKind.free&&X.env.scope.kind==.function&&X.env.kindOf x==some .cell)then NameKind.cell else k:=dX
   have V0:i<σ.length:=by
    rcases t6 i σ.length with z |z
    . exact z
    .
     exfalso;unfold σC at e2;rw[eA z]at e2;rcases t6 (i - σ.length) k with z2 |z2
     .
      rw[dL (by rw[gL];exact z2)]at e2
      have:=kS e2;rw[vS]at this;exact absurd this.2 ⋯
     .
      rw[eA (by rw[gL];exact z2),gL]at e2
      have z3:i - σ.length - k=0:=by
       rcases Nat.eq_zero_or_pos (i - σ.length - k)with q |q
       . exact q
       . rw[AR (Nat.succ_le_of_lt q)]at e2;cases e2
      have z4:i=X.N.length+k:=by rw[<- I2.len];lia
      have hn:=hN.last x (by rw[<- z4];exact e1)
      rw[ek,hn]at WM;rcases WM with q |q |q <;> cases q
   have JX:σ[i]?=some (some v):=by unfold σC at e2;rw[dL V0]at e2;exact e2
   have hiN:i<X.N.length:=by rw[<- I2.len];exact V0
   rcases hN.old i x e1 hiN with z |⟨z,z2⟩
   . rw[ek,z]at WM;rcases WM with q |q |q <;> cases q
   .
    have hfree:(compEnvC scope cl P2.objs.size X.env).kindOf x=some .cell\/(compEnvC scope cl P2.objs.size X.env).kindOf x=some .free:=by
     rcases WM with q |q
     .
      exfalso;rw[ek]at q;cases hq:scope.names.lookup x with
      |none=>rw[hq]at q;cases q
      |some kk=>
       rw[hq]at q;cases kk with
       | «local»=>exact z2 hq
       |free=>simp only[BF,Option.some.injEq]at q;split at q <;> cases q
       |_=>simp at q
     . exact q
    have hm:=ow (cl:=cl) (C:=P2.objs.size) B hfree;obtain⟨c,hc1⟩:=JV _ hm rfl;have WN:cl.lookup x=some c:=hc1;have hc2:=(hcl x c WN).1;obtain⟨m2,hn2,hl2⟩:=I2.loc;have hvis:gR X.env.scope x:=(B.free _ hm rfl).elim (λa=>.inr (.inl a)) λa=>.inr (.inr a)
    obtain⟨u,ru,lk⟩:=hl2 i x v z JX hvis;refine⟨u,ru,.inr ⟨hfree,c,WN,?_⟩⟩;rcases lk with ⟨q1,_⟩ |⟨_,c',q1,q2⟩
    .
     exfalso;have JZ:X.env.scope.names.lookup x=some .local:=q1;rcases B.free _ hm rfl with y |y
     . have y':X.env.scope.names.lookup x=some .cell:=y;rw[JZ]at y';cases y'
     . have y':X.env.scope.names.lookup x=some .free:=y;rw[JZ]at y';cases y'
    . rw[hc2]at q1;cases q1;obtain⟨o,ho,hd⟩:=q2;exact⟨o,old _ _ ho,hd⟩
  . obtain⟨v,o,ho,hd⟩:=I2.cell x c (hcl x c e).1;exact⟨v,o,old _ _ ho,hd⟩
  . show upd H2 s₂⁻¹ (.lst []) P2.objs.size=none;rw[az (mP hDC)];exact hC0
  . have q:=I2.dP x c (hcl x c e).1;obtain⟨v,z⟩:=I2.cell x c (hcl x c e).1;rw[az (l4 z.lt)];exact q
  . exact absurd (show p∈([]:List (Addr×Obj))from hp) ⋯
  . exact⟨Ap _,[],_,.nil,JW.extBut _ _ hDC (bP _ (hH2▸eJ _ rfl))⟩
  . show (σC k s₂⁻¹ σ).length=N'.length;unfold σC;rw[eR,eR,gL,hN.len,I2.len];rfl
 have stat:∀{H':Hp},(∀b∈fp,H' b=none)->∀b∈fp,jT (X.block N' scope cl P2.objs.size s₂ H2 fp) [] H' b:=λhn b hb=>
  ⟨hn b hb,(ok'.Va b hb).1,fsub b hb,.inl hb,λx c e=>(ok'.Va b hb).2 x c e,λp hp=>absurd (show p∈([]:List (Addr×Obj))from hp) ⋯⟩
 have loop:∀s₃:Shared,s₃={ s₂ with heap:=h₁,toks:=s₂.toks+([]:List (Str×Value)).length}->
   codeAny (model X.prog X.w) X.A (.compLoop (.ListComp bH (⟨tg,iter,ifs,0⟩::rest) scope pos) 0 (.ref it) (.ref s₂⁻¹) (compEnvC scope cl P2.objs.size X.env))
    (compPost (model X.prog X.w) X.A X.xe use Q (.ref s₂⁻¹) P2.objs.size) s₃:=by
  rintro s₃ rfl;refine jY (hturn _ _ _) (λn s'=>∃i σ' H',Inv (X.block N' scope cl P2.objs.size s₂ H2 fp) [] σ' H' s'/\tn i s'.heap/\(∀b∈fp,H' b=none)/\W i n σ' H') ?_ m0
   ⟨0,_,_,I0,T.keep _ _ _ aK λb hb o e=>old b o e,λb hb=>?_,w0⟩
  .
   rintro n s3 ⟨i,σ3,H3,I3,dU,N1,w3⟩;rcases turn i n σ3 H3 w3 with ⟨stop,qn⟩ |⟨go,Nn,hNn,step⟩
   .
    refine bL (T.done (X.block N' scope cl P2.objs.size s₂ H2 fp) rfl rfl rfl hc i [] s3 σ3 H3 (λ_ _=>False) I3 (stat N1) dU stop) λr s4 ⟨hr,I4⟩=>?_
    subst hr;obtain⟨m,hm,_⟩:=id I4.loc;have I5:Inv X ah σ H3 s4:=I2.call' (ch:=fp) I4.os I4.base I4.hok I4.bare λb hb=>⟨(f2 b hb).2.2.2.1,(f2 b hb).2.1,(f2 b hb).2.2.2.2.1,(f2 b hb).2.2.2.2.2⟩
    exact fin s4 H3 _ _ m I5 (I2.uI Qk I4.free) hm qn
   .
    refine bL (T.item (X.block N' scope cl P2.objs.size s₂ H2 fp) rfl rfl rfl hc i [] s3 σ3 H3 (λ_ _=>False) I3 (stat N1) dU go) λr s4 ⟨u,hr,h4⟩=>?_
    subst hr;refine bL h4 λ_ s5 ⟨x,H5,I5,r5,y5,jU,Wd⟩=>?_
    have Wf:=I5.pinned (stat Wd) (T.obj _ _ jU);have again:∀{σ7:St}{H7:Hp}{s7:Shared},Inv (X.block N' scope cl P2.objs.size s₂ H2 fp) ([]++kU fp s5.heap) σ7 H7 s7->Nn σ7 H7->∃m,m<n/\∃i σ' H',Inv (X.block N' scope cl P2.objs.size s₂ H2 fp) [] σ' H' s7/\tn i s7.heap/\(∀b∈fp,H' b=none)/\W i m σ' H':=λ{σ7 H7 s7} I7 n7=>by
     obtain⟨m',hm,w7⟩:=hNn σ7 H7 n7;refine⟨m',hm,i+1,σ7,H7,I7.g9,T.keep _ _ _ jU λb hb o e=>(I7.pin (b,o) (i6 _ (i6 _ (dc hb e)))).1,λb hb=>?_,w7⟩
     obtain⟨o,e,d⟩:=T.obj _ _ jU b hb;exact (I7.pin (b,o) (i6 _ (i6 _ (dc hb e)))).2.1
    refine bL (hg _ s5 σ3 H5 x u _ Wf r5 (step x H5 y5 ⟨cl,P2.objs.size,s₂,H2,fp⟩ ⟨ah,I2,f2⟩)) λ_ s6 ⟨σ6,H6,I6,q6⟩=>?_
    refine bL (ht _ s6 σ6 H6 _ I6 q6) λb s7 ⟨H7,I7,q7⟩=>?_
    cases b with
    |false=>
     rw[gN lL]at q7 ⊢
     exact again I7 q7
    |true=>
     rw[fN rfl]at q7 ⊢
     exact l5 (he _ s7 σ6 H7 _ I7 q7) (λ_ s9 ⟨σ9,H9,I9,q9⟩=>again I9 q9) λ_ _ z=>z
  . show upd H2 s₂⁻¹ (.lst []) b=none;rw[az (l4 (fps b hb))];exact (f2 b hb).1
 refine codeAny_compStart_list (loop _ rfl) (T.self _ 0 _ _ _ ?_ (loop _ rfl));exact T.keep _ _ _ aK λb hb o e=>old b o e
theorem yX{N':List Str}{k:Nat}{wi:TI}{g:Bk->TG}{tt:Bk->TT}{te:Bk->TE}(B:aM X.env.scope scope)(hc:X.calm=true)(hN:Names X.N N' scope k)(hi:PI X tg iter wi)
  (hin:∀b:Bk,PG (X.blk N' scope b) tg (g b)/\kX (X.blk N' scope b) ifs (tt b)/\PE (X.blk N' scope b) bH (te b))
  (hs:∀x,foldedSetIterable iter X.env x=pure x:=by intro _;rfl):PE X (.ListComp bH [⟨tg,iter,ifs,0⟩] scope pos) (ou X k wi g tt λD b=>qA D (te b)):=by
 intro ah s σ H Q I h;rw[eval_ListComp];refine iS (use:=none) B hc hN hi (rest:=[]) (em:=λacc env=>do let _ <- call (.builtin "list.append") [acc,<- eval bH env]) (λ_ _ _=>rfl) (λb D=>⟨(hin b).1,(hin b).2.1,xg (hin b).2.2 rfl⟩) hs I h λs' H' D C m I' f' hn q=>?_
 refine⟨m,hn,λh' sb=>⟨.ref D,H',?_,rfl,q⟩⟩
 obtain⟨f0,f1,f2,f3,f4,f5⟩:=f';exact I'.turned (t':=s'.toks) (λb o hb e=>(sb.2 b hb).trans e) f0 f1 f3 f4 f5
theorem yZ{N':List Str}{k:Nat}{wi:TI}{g:Bk->TG}{tt:Bk->TT}{te:Bk->TE}{i:Nat}{y:Str}{py bJ:Pos}(B:aM X.env.scope scope)(hc:X.calm=true)(hN:Names X.N N' scope k)(hi:PI X tg iter wi)
  (hin:∀b:Bk,PG (X.blk N' scope b) tg (g b)/\kX (X.blk N' scope b) ifs (tt b)/\PE (X.blk N' scope b) bH (te b))
  (Aw:X.N.Nodup) (hy:X.N[i]?=some y) (hl:X.env.scope.names.lookup y=some .local)
  (hsw:swapsWith (.ListComp bH [⟨tg,iter,ifs,0⟩] scope pos) (some (.Name y py)) bJ.line X.env=pure true)
  (hs:∀x,foldedSetIterable iter X.env x=pure x:=by intro _;rfl):PS X (.Assign [.Name y py] (.ListComp bH [⟨tg,iter,ifs,0⟩] scope pos) bJ) (JC (ou X k wi g tt λD b=>qA D (te b)) (qT i)):=by
 intro ah s σ H D0 I h;rw[exec_Assign_Name_used _ _ _ _ hsw];refine aS (AG (aS ?_));show wpAny _ X.A (do let _ <- comprehension (.ListComp bH [⟨tg,iter,ifs,0⟩] scope pos) scope X.env _ (newList []) false (eval iter X.env) (some (assign (.Name y py) X.env))) _ _ s
 refine aS (l5 (iS (use:=some (assign (.Name y py) X.env)) (Q:=λ_ s'=>SP X ah D0 .next s') B hc hN hi (rest:=[]) (em:=λacc env=>do let _ <- call (.builtin "list.append") [acc,<- eval bH env]) (λ_ _ _=>rfl) (λb D=>⟨(hin b).1,(hin b).2.1,xg (hin b).2.2 rfl⟩) hs I h λs' H' D C m I' f' hn q=>?_) (λ_ s' hq=>dE (dE hq)) λ_ _ e=>e)
 refine wpAny_assign_Name (kP I' Aw hy (.inl hl) (v:=.ref D) rfl (λs2 I2 hsb=>?_) (.inr hl))
 obtain⟨f0,f1,f2,f3,f4,f5⟩:=f';obtain⟨a,sb,ha⟩:=hsb;have nC:C≠a:=by
  rcases ha with e |e
  . rw[e];exact f1
  . exact mP (f4 _ _ e)
 refine⟨m,hn.sameBut sb nC,λh' sb'=>⟨_,H',?_,q⟩⟩
 exact I2.turned (t':=s2.toks) (λb o hb e=>(sb'.2 b hb).trans e) f0 f1 f3 f4 f5
end
end L2
namespace Ev
open L2
inductive D where
 |non |bl (b:Bool) |int (i:Int) |str (x:Str) |tup (l:List D) |lst (l:List D) |fix (l:List D) |emp |mz (C:Addr)
 deriving Inhabited
inductive Slot where
 |no |dat (d:D) |own (l:List D)
 deriving Inhabited
inductive R where
 |dat (d:D) |new (l:List D) |var (i:Nat)
 deriving Inhabited
abbrev G:=List Slot
abbrev Sg:=L2.St
abbrev K0:Hp:=λ_=>none
def LstAt(M:List Addr)(H:Hp)(a:Addr)(xs:List V):Prop:=a∉M/\H a=some (.lst xs)
def mC(K:Frag)(M:List Addr)(H:Hp)(a:Addr)(xs:List V):Prop:=(a∉M/\∃o,H a=some (.jv o (.lst xs)))\/bZ K K0 a xs
def TupAt(K:Frag)(M:List Addr)(H:Hp)(a:Addr)(xs:List V):Prop:=(a∉M/\Rd H a (.tup xs))\/(g7 K K0 a xs/\∃o,K.lookup a=some o/\o.dict=none)
theorem rd0(h:Rd K0 a u):False:=by rcases h with h |⟨o,h⟩ <;> cases h
theorem mC.sq{K:Frag}{M:List Addr}{H:Hp}{a:Addr}{xs:List V}(h:mC K M H a xs):bZ K H a xs:=by
 rcases h with ⟨_,o,h⟩ |h |h
 . exact .inl (.inr ⟨o,h⟩)
 . exact (rd0 h).elim
 . exact .inr h
theorem TupAt.sq{K:Frag}{M:List Addr}{H:Hp}{a:Addr}{xs:List V}(h:TupAt K M H a xs):g7 K H a xs:=by
 rcases h with ⟨_,h⟩ |⟨h |h,_⟩
 . exact .inl h
 . exact (rd0 h).elim
 . exact .inr h
noncomputable abbrev xq(C a:Addr):HO:=.ext λh=>∃o,h.get? a=some o/\o.cls=.ref C/\PySem.W.notCls o=true/\o.dict=none
structure Jl(K:Frag)(C:Addr):Prop where
 gga:PySem.W.findIn K (.ref C) "__getattribute__"=some (some (.builtin "BaseException.__getattribute__"))
 gat:PySem.W.findIn K (.ref C) "__getattr__"=some none
 bas:PySem.W.mroIn K C (.type "BaseException")=some true
 dct:PySem.W.hasDictIn K C=true
 cls:PySem.W.findIn K (.ref C) "__class__"=some (some (.builtin "object.__class__"))
 spc:PySem.W.specialIn K (.builtin "object.__class__") "__get__"=some (some (.builtin "getset_descriptor.__get__"))
 tks:PySem.W.takesIn K (.builtin "object.__class__")=some true
 mro:PySem.W.mroIn K C (.type "object")=some true
 kit:∀n∈["int", "bool", "str", "tuple", "list", "dict"],PySem.W.kitOne K (.ref C) (.type n)=some false
mutual
inductive Rep(K:Frag)(M:List Addr)(H:Hp):D->V->Prop
 |non:Rep K M H .non .non
 |bl (b:Bool):Rep K M H (.bl b) (.bl b)
 |int (i:Int):Rep K M H (.int i) (.int i)
 |str (x:Str):Rep K M H (.str x) (.str x)
 |tup {l:List D}{a:Addr}{xs:List V}:TupAt K M H a xs->aI K M H l xs->Rep K M H (.tup l) (.ref a)
 |lst {l:List D}{a:Addr}{xs:List V}:LstAt M H a xs->aI K M H l xs->Rep K M H (.lst l) (.ref a)
 |fix {l:List D}{a:Addr}{xs:List V}:mC K M H a xs->aI K M H l xs->Rep K M H (.fix l) (.ref a)
 |emp:a∉M->H a=some (.dK [])->Rep K M H .emp (.ref a)
 |mz:Jl K C->a∉M->H a=some (xq C a)->Rep K M H (.mz C) (.ref a)
inductive aI(K:Frag)(M:List Addr)(H:Hp):List D->List V->Prop
 |nil:aI K M H [] []
 |cons {d:D}{ds:List D}{x:V}{xs:List V}:Rep K M H d x->aI K M H ds xs->aI K M H (d::ds) (x::xs)
end
def aq(M:List Addr)(H:Hp)(M':List Addr)(H':Hp):Prop:=∀b o,H b=some o->b∉M->H' b=some o/\b∉M'
theorem aq.rd(h:aq M H M' H')(n:a∉M)(r:Rd H a u):a∉M'/\Rd H' a u:=by
 rcases r with r |⟨o,r⟩
 . exact⟨(h _ _ r n).2,.inl (h _ _ r n).1⟩
 . exact⟨(h _ _ r n).2,.inr ⟨o,(h _ _ r n).1⟩⟩
theorem Rep.stay{K:Frag}{M M':List Addr}{H H':Hp}(h:aq M H M' H'){d:D}{v:V}(r:Rep K M H d v):Rep K M' H' d v:=by
 refine Rep.rec (motive_1:=λd v _=>Rep K M' H' d v) (motive_2:=λds vs _=>aI K M' H' ds vs) .non .bl .int .str (λt _ q=>?_) (λt _ q=>?_) (λt _ q=>?_) (λn r=>.emp (h _ _ r n).2 (h _ _ r n).1) (λx n r=>.mz x (h _ _ r n).2 (h _ _ r n).1) .nil (λ_ _ a b=>.cons a b) r
 .
  rcases t with t |t
  . exact .tup (.inl (h.rd t.1 t.2)) q
  . exact .tup (.inr t) q
 . exact .lst ⟨(h _ _ t.2 t.1).2,(h _ _ t.2 t.1).1⟩ q
 .
  rcases t with ⟨n,o,r⟩ |t
  . exact .fix (.inl ⟨(h _ _ r n).2,o,(h _ _ r n).1⟩) q
  . exact .fix (.inr t) q
theorem aI.stay{K:Frag}{M M':List Addr}{H H':Hp}(h:aq M H M' H'):∀{ds:List D}{vs:List V},aI K M H ds vs->aI K M' H' ds vs:=by
 intro ds
 induction ds with
 |nil=>intro vs q;cases q;exact .nil
 |cons d ds ih=>intro vs q;cases q with |cons a b=>exact .cons (a.stay h) (ih b)
theorem aq.refl(M:List Addr)(H:Hp):aq M H M H:=λ_ _ e n=>⟨e,n⟩
theorem aq.trans(a:aq M H M1 H1)(b:aq M1 H1 M2 H2):aq M H M2 H2:=λc o e n=>b c o (a c o e n).1 (a c o e n).2
theorem aq.less(h:∀m∈M',m∈M):aq M H M' H:=λ_ _ e n=>⟨e,λz=>n (h _ z)⟩
theorem aq.laid(hp:H p=none):aq M H M (upd H p o):=λb u e n=>⟨by rw[az (aJ e hp)];exact e,n⟩
theorem aq.aQ(hp:H p=none):aq M H (p::M) (upd H p o):=λb u e n=>
 ⟨by rw[az (aJ e hp)];exact e,λz=>(d6.mp z).elim (λq=>aJ e hp q) n⟩
theorem aq.write(hp:p∈M):aq M H M (upd H p o):=λb u e n=>⟨by rw[az (λq=>n (by rw[q];exact hp))];exact e,n⟩
theorem aI.length{K:Frag}{M:List Addr}{H:Hp}{ds:List D}{vs:List V}(r:aI K M H ds vs):ds.length=vs.length:=by
 induction ds generalizing vs with
 |nil=>cases r;rfl
 |cons d ds ih=>cases r with |cons a b=>exact congrArg (· + 1) (ih b)
theorem aI.append{K:Frag}{M:List Addr}{H:Hp}{ds es:List D}{vs ws:List V}(r:aI K M H ds vs)(s:aI K M H es ws):aI K M H (ds++es) (vs++ws):=by
 induction ds generalizing vs with
 |nil=>cases r;exact s
 |cons d ds ih=>cases r with |cons a b=>exact .cons a (ih b)
theorem aI.get{K:Frag}{M:List Addr}{H:Hp}{ds:List D}{vs:List V}{i:Nat}{d:D}(r:aI K M H ds vs)(e:ds[i]?=some d):∃v,vs[i]?=some v/\Rep K M H d v:=by
 induction ds generalizing vs i with
 |nil=>exact nomatch (show none=some d from e)
 |cons d' ds ih=>cases r with |cons a b=>cases i with
  |zero=>cases (show some d'=some d from e);exact⟨_,rfl,a⟩
  |succ i=>obtain⟨v,h⟩:=ih (i:=i) b e;exact⟨v,h⟩
theorem aI.set{K:Frag}{M:List Addr}{H:Hp}{d:D}{v:V}(r:Rep K M H d v){ds:List D}{vs:List V}(i:Nat)(q:aI K M H ds vs):aI K M H (ds.set i d) (vs.set i v):=by
 induction ds generalizing vs i with
 |nil=>cases q;exact .nil
 |cons d' ds ih=>cases q with |cons a b=>cases i with
  |zero=>exact .cons r b
  |succ i=>exact .cons a (ih i b)
theorem aI.take{K:Frag}{M:List Addr}{H:Hp}{ds:List D}{vs:List V}(n:Nat)(q:aI K M H ds vs):aI K M H (ds.take n) (vs.take n):=by
 induction ds generalizing vs n with
 |nil=>cases q;rw[List.take_nil,List.take_nil];exact .nil
 |cons d' ds ih=>cases q with |cons a b=>cases n with
  |zero=>exact .nil
  |succ n=>exact .cons a (ih n b)
theorem aI.drop{K:Frag}{M:List Addr}{H:Hp}{ds:List D}{vs:List V}(n:Nat)(q:aI K M H ds vs):aI K M H (ds.drop n) (vs.drop n):=by
 induction ds generalizing vs n with
 |nil=>cases q;rw[List.drop_nil,List.drop_nil];exact .nil
 |cons d' ds ih=>cases q with |cons a b=>cases n with
  |zero=>exact .cons a b
  |succ n=>exact ih n b
inductive Slots(K:Frag)(M:List Addr)(H:Hp):G->Sg->List Addr->Prop
 |nil:Slots K M H [] [] []
 |no:Slots K M H g σ As->Slots K M H (.no::g) (v::σ) As
 |dat {g:G}{σ:Sg}{As:List Addr}{v:V}{d:D}:Rep K M H d v->Slots K M H g σ As->Slots K M H (.dat d::g) (some v::σ) As
 |own {g:G}{σ:Sg}{As:List Addr}{a:Addr}{xs:List V}{ds:List D}:H a=some (.lst xs)->aI K M H ds xs->Slots K M H g σ As->Slots K M H (.own ds::g) (some (.ref a)::σ) (a::As)
theorem Slots.stay{K:Frag}{M M':List Addr}{H H':Hp}(h:aq M H M' H'){g:G}{σ:Sg}{As:List Addr}(k:∀a∈As,∀o,H a=some o->H' a=some o)(q:Slots K M H g σ As):Slots K M' H' g σ As:=by
 induction q with
 |nil=>exact .nil
 |no q ih=>exact .no (ih k)
 |dat r q ih=>exact .dat (r.stay h) (ih k)
 |own e r q ih=>exact .own (k _ dA _ e) (r.stay h) (ih λa ha=>k a (a9 _ ha))
def cE(K:Frag):List (Addr×Str):=K.filterMap λp=>match p.2.data with
 |.fields vs=>(match vs.toList with
  |_::.str n _::_=>if (n==("law":Str))=true then (match vs.toList[11]? with
   |some (Value.ref q)=>if (K.lookup q).isNone=true then some (q,("law.<locals>.<lambda>":Str))else none
   |_=>none)else none
  |_=>none)
 |_=>none
theorem Ax{K:Frag}{p:Addr×Str}(h:p∈cE K):p.2 = "law.<locals>.<lambda>" :=by
 unfold cE at h;obtain⟨q,_,e⟩:=BC.mp h;split at e
 .
  split at e
  .
   split at e
   .
    split at e
    .
     split at e
     . cases e;rfl
     . cases e
    . cases e
   . cases e
  . cases e
 . cases e
structure Z where
 K:Frag
 H0:Hp
 M0:List Addr
 lent:List (Nat×Addr)
 T:List (Addr×Str)
abbrev gS(q:Str)(c:Addr):HO:=.ext λh=>h.CodeRec (.ref c) q
def TabOk(H:Hp)(p:Addr×Str):Prop:=∃ps:Array Value,H p.1=some (.kN ps)/\TriplesOk ps.toList/\∀pos cv,codeAmong pos ps.toList=some cv->∃c,cv=.ref c/\H c=some (gS p.2 c)
noncomputable abbrev Z.TA(z:Z):List Addr:=z.T.map (·.1)
theorem TabOk.keep(t:TabOk H p)(k:∀b o,H b=some o->(∀xs,o≠.lst xs)->H' b=some o):TabOk H' p:=by obtain⟨ps,h1,h2,h3⟩:=t;exact⟨ps,k _ _ h1 (λ_ e=>nomatch e),h2,λpos cv e=>let ⟨c,e1,e2⟩:=h3 pos cv e;⟨c,e1,k _ _ e2 (λ_ e=>nomatch e)⟩⟩
noncomputable abbrev Z.B(z:Z):List Addr:=z.lent.map (·.2)
abbrev Z.bor(z:Z):List Nat:=z.lent.map (·.1)
structure S(z:Z)(g:G)(σ:Sg)(As M:List Addr)(H:Hp):Prop where
 sl:Slots z.K M H g σ As
 nd:As.Nodup
 sub:∀a∈As,a∈M
 own:∀(i:Nat) (a:Addr) (l:List D),g[i]?=some (.own l)->σ[i]?=some (some (.ref a))->(i∈z.bor/\a∈z.B)\/z.H0 a=none
 live:∀m∈M,(∃xs,H m=some (.lst xs))\/m∈z.TA
 keep:∀b o,z.H0 b=some o->b∉z.B->b∉z.TA->H b=some o
 iu:∀m∈z.M0,m∈M
 m0:∀m∈z.M0,z.H0 m≠none
 bm:∀b∈z.B,b∈z.M0
 iT:∀p∈z.lent,σ[p.1]?=some (some (.ref p.2))/\∃l,g[p.1]?=some (.own l)
 tab:∀p∈z.T,TabOk H p
 tm:∀p∈z.T,p.1∈z.M0
 tt:z.T=cE z.K
section
variable{g:G}
theorem S.fresh(s:S z g σ As M H)(hp:H p=none):p∉M:=λhm=>by
 rcases s.live p hm with ⟨xs,e⟩ |e
 . rw[hp]at e;cases e
 . obtain⟨q,hq,rfl⟩:=i7.mp e;obtain⟨ps,h1,_⟩:=s.tab q hq;rw[hp]at h1;cases h1
theorem S.N5(s:S z g σ As M H)(hp:H p=some (.lst xs)):p∉z.TA:=λe=>by
 obtain⟨q,hq,rfl⟩:=i7.mp e;obtain⟨ps,h1,_⟩:=s.tab q hq;rw[hp]at h1;cases h1
theorem S.bW(s:S z g σ As M H)(hp:H p=none):z.H0 p=none:=by
 cases e:z.H0 p with
 |none=>rfl
 |some o=>
  by_cases hb:p∈z.B
  . exact absurd (s.iu _ (s.bm _ hb)) (s.fresh hp)
  .
   by_cases ht:p∈z.TA
   . obtain⟨q,hq,rfl⟩:=i7.mp ht;exact absurd (s.iu _ (s.tm q hq)) (s.fresh hp)
   . rw[s.keep p o e hb ht]at hp;cases hp
theorem S.laid(s:S z g σ As M H){p:Addr}{o:HO}(hp:H p=none):S z g σ As M (upd H p o) where
 sl:=s.sl.stay (aq.laid hp) λa _ u e=>by rw[az (aJ e hp)];exact e
 nd:=s.nd
 sub:=s.sub
 own:=s.own
 live:=λm hm=>by
  rcases s.live m hm with ⟨xs,e⟩ |e
  . exact .inl ⟨xs,by rw[az (aJ e hp)];exact e⟩
  . exact .inr e
 keep:=λb u e hb ht=>by rw[az (aJ (s.keep b u e hb ht) hp)];exact s.keep b u e hb ht
 iu:=s.iu
 m0:=s.m0
 bm:=s.bm
 iT:=s.iT
 tab:=λp h=>(s.tab p h).keep λb u e _=>by rw[az (aJ e hp)];exact e
 tm:=s.tm
 tt:=s.tt
theorem S.aQ(s:S z g σ As M H){p:Addr}{xs:List V}(hp:H p=none):S z g σ As (p::M) (upd H p (.lst xs)) where
 sl:=s.sl.stay (aq.aQ hp) λa _ u e=>by rw[az (aJ e hp)];exact e
 nd:=s.nd
 sub:=λa ha=>a9 _ (s.sub a ha)
 own:=s.own
 live:=λm hm=>by
  rcases d6.mp hm with rfl |hm
  . exact .inl ⟨xs,aA⟩
  .
   rcases s.live m hm with ⟨ys,e⟩ |e
   . exact .inl ⟨ys,by rw[az (aJ e hp)];exact e⟩
   . exact .inr e
 keep:=λb u e hb ht=>by rw[az (aJ (s.keep b u e hb ht) hp)];exact s.keep b u e hb ht
 iu:=λm hm=>a9 _ (s.iu m hm)
 m0:=s.m0
 bm:=s.bm
 iT:=s.iT
 tab:=λp h=>(s.tab p h).keep λb u e _=>by rw[az (aJ e hp)];exact e
 tm:=s.tm
 tt:=s.tt
theorem S.drop(s:S z g σ As M H)(h0:z.H0 p=none)(hA:p∉As):S z g σ As (M.filter λm=>decide (m≠p)) H where
 sl:=s.sl.stay (aq.less λm hm=>(i8.mp hm).1) λ_ _ _ e=>e
 nd:=s.nd
 sub:=λa ha=>i8.mpr ⟨s.sub a ha,by have:a≠p:=λe=>hA (e▸ha);simpa using this⟩
 own:=s.own
 live:=λm hm=>s.live m (i8.mp hm).1
 keep:=s.keep
 iu:=λm hm=>i8.mpr ⟨s.iu m hm,by have:m≠p:=λe=>s.m0 m hm (e▸h0);simpa using this⟩
 m0:=s.m0
 bm:=s.bm
 iT:=s.iT
 tab:=s.tab
 tm:=s.tm
 tt:=s.tt
end
def cN(z:Z)(g:G)(σ:Sg)(As M:List Addr)(H:Hp):R->V->Prop
 |.dat d,v=>Rep z.K M H d v
 |.new l,v=>∃a xs,v=.ref a/\a∈M/\a∉As/\z.H0 a=none/\H a=some (.lst xs)/\aI z.K M H l xs
 |.var i,v=>∃l,g[i]?=some (.own l)/\σ[i]?=some (some v)
inductive Pk(K:Frag)(M:List Addr)(H:Hp):D->V->Prop
 |of:Rep K M H d v->Pk K M H d v
 |lst {l:List D}{a:Addr}{xs:List V}:H a=some (.lst xs)->aI K M H l xs->Pk K M H (.lst l) (.ref a)
theorem Pk.list{K:Frag}{M:List Addr}{H:Hp}{l:List D}{v:V}(h:Pk K M H (.lst l) v):∃a xs,v=.ref a/\H a=some (.lst xs)/\aI K M H l xs:=by
 cases h with
 |of r=>cases r with |lst h1 h2=>exact⟨_,_,rfl,h1.2,h2⟩
 |lst h1 h2=>exact⟨_,_,rfl,h1,h2⟩
theorem Slots.at{K:Frag}{M:List Addr}{H:Hp}{g:G}{σ:Sg}{As:List Addr}{i:Nat}{l:List D}(q:Slots K M H g σ As)(e:g[i]?=some (.own l)):∃a xs,σ[i]?=some (some (.ref a))/\a∈As/\H a=some (.lst xs)/\aI K M H l xs:=by
 induction q generalizing i with
 |nil=>exact nomatch (show none=some (Slot.own l)from e)
 |no q ih=>cases i with
  |zero=>exact nomatch (show some Slot.no=some (Slot.own l)from e)
  |succ i=>exact ih e
 |dat r q ih=>cases i with
  |zero=>exact nomatch (show some (Slot.dat _)=some (Slot.own l)from e)
  |succ i=>exact ih e
 |own h r q ih=>cases i with
  |zero=>cases (show some (Slot.own _)=some (Slot.own l)from e);exact⟨_,_,rfl,dA,h,r⟩
  |succ i=>obtain⟨a,xs,h1,h2,h3⟩:=ih e;exact⟨a,xs,h1,a9 _ h2,h3⟩
theorem Slots.y9{K:Frag}{M:List Addr}{H:Hp}{g:G}{σ:Sg}{As:List Addr}{i:Nat}{d:D}(q:Slots K M H g σ As)(e:g[i]?=some (.dat d)):∃v,σ[i]?=some (some v)/\Rep K M H d v:=by
 induction q generalizing i with
 |nil=>exact nomatch (show none=some (Slot.dat d)from e)
 |no q ih=>cases i with
  |zero=>exact nomatch (show some Slot.no=some (Slot.dat d)from e)
  |succ i=>exact ih e
 |dat r q ih=>cases i with
  |zero=>cases (show some (Slot.dat _)=some (Slot.dat d)from e);exact⟨_,rfl,r⟩
  |succ i=>exact ih e
 |own h r q ih=>cases i with
  |zero=>exact nomatch (show some (Slot.own _)=some (Slot.dat d)from e)
  |succ i=>exact ih e
theorem Slots.length{K:Frag}{M:List Addr}{H:Hp}{g:G}{σ:Sg}{As:List Addr}(q:Slots K M H g σ As):g.length=σ.length:=by
 induction q with
 |nil=>rfl
 |no q ih=>exact congrArg (· + 1) ih
 |dat r q ih=>exact congrArg (· + 1) ih
 |own h r q ih=>exact congrArg (· + 1) ih
theorem Slots.jx{K:Frag}{M:List Addr}{H:Hp}{d:D}{v:V}(r:Rep K M H d v){g:G}{σ:Sg}{As:List Addr}(i:Nat)(q:Slots K M H g σ As):∃aC,Slots K M H (g.set i (.dat d)) (σ.set i (some v)) aC/\aC.Sublist As:=by
 induction q generalizing i with
 |nil=>exact⟨[],.nil,.slnil⟩
 |no q ih=>cases i with
  |zero=>exact⟨_,.dat r q,AE _⟩
  |succ i=>obtain⟨aC,h1,h2⟩:=ih i;exact⟨aC,.no h1,h2⟩
 |dat r' q ih=>cases i with
  |zero=>exact⟨_,.dat r q,AE _⟩
  |succ i=>obtain⟨aC,h1,h2⟩:=ih i;exact⟨aC,.dat r' h1,h2⟩
 |own e r' q ih=>cases i with
  |zero=>exact⟨_,.dat r q,List.sublist_cons_self _ _⟩
  |succ i=>obtain⟨aC,h1,h2⟩:=ih i;exact⟨_::aC,.own e r' h1,h2.cons₂ _⟩
theorem Slots.freeze{K:Frag}{M M':List Addr}{H:Hp}(hM:∀m∈M',m∈M){g:G}{σ:Sg}{As:List Addr}{i:Nat}{l:List D}{a:Addr}(q:Slots K M H g σ As)(e:g[i]?=some (.own l))(e2:σ[i]?=some (some (.ref a)))(na:a∉M')(nd:As.Nodup) :
  ∃aC,Slots K M' H (g.set i (.dat (.lst l))) σ aC/\aC.Sublist As/\a∉aC:=by
 induction q generalizing i with
 |nil=>exact nomatch (show none=some (Slot.own l)from e)
 |no q ih=>cases i with
  |zero=>exact nomatch (show some Slot.no=some (Slot.own l)from e)
  |succ i=>obtain⟨aC,h1,h2,h3⟩:=ih e e2 nd;exact⟨aC,.no h1,h2,h3⟩
 |dat r q ih=>cases i with
  |zero=>exact nomatch (show some (Slot.dat _)=some (Slot.own l)from e)
  |succ i=>obtain⟨aC,h1,h2,h3⟩:=ih e e2 nd;exact⟨aC,.dat (r.stay (aq.less hM)) h1,h2,h3⟩
 |@own g σ As b xs ds h r q ih=>cases i with
  |zero=>
   cases (show some (Slot.own _)=some (Slot.own l)from e)
   cases (show some (some (V.ref b))=some (some (V.ref a))from e2)
   exact⟨_,.dat (.lst ⟨na,h⟩ (r.stay (aq.less hM))) (q.stay (aq.less hM) λ_ _ _ e=>e),List.sublist_cons_self _ _,(hV.mp nd).1⟩
  |succ i=>
   obtain⟨aC,h1,h2,h3⟩:=ih e e2 (hV.mp nd).2;refine⟨b::aC,.own h (r.stay (aq.less hM)) h1,h2.cons₂ _,λhm=>?_⟩
   rcases d6.mp hm with z |z
   .
    obtain⟨c,xs,z1,z2,_⟩:=q.at (i:=i) e;cases (show some (some (V.ref c))=some (some (V.ref a))from z1.symm.trans e2)
    exact (hV.mp nd).1 (by rw[<- z];exact z2)
   . exact h3 z
theorem Slots.change{K:Frag}{M:List Addr}{H H':Hp}{l':List D}{a:Addr}{xs':List V}(st:aq M H M H')(ha:H' a=some (.lst xs'))(r':aI K M H' l' xs'){g:G}{σ:Sg}{As:List Addr}{i:Nat}{l:List D}(q:Slots K M H g σ As)(e:g[i]?=some (.own l))(e2:σ[i]?=some (some (.ref a)))(nd:As.Nodup)
  (k:∀b∈As,b≠a->∀o,H b=some o->H' b=some o):Slots K M H' (g.set i (.own l')) σ As:=by
 induction q generalizing i with
 |nil=>exact nomatch (show none=some (Slot.own l)from e)
 |no q ih=>cases i with
  |zero=>exact nomatch (show some Slot.no=some (Slot.own l)from e)
  |succ i=>exact .no (ih e e2 nd k)
 |dat r q ih=>cases i with
  |zero=>exact nomatch (show some (Slot.dat _)=some (Slot.own l)from e)
  |succ i=>exact .dat (r.stay st) (ih e e2 nd k)
 |@own g σ As b xs ds h r q ih=>cases i with
  |zero=>
   cases (show some (some (V.ref b))=some (some (V.ref a))from e2)
   exact .own ha r' (q.stay st λc hc o e=>k c (a9 _ hc) (λz=>(hV.mp nd).1 (by rw[<- z];exact hc)) o e)
  |succ i=>
   refine .own (k b dA (λz=>?_) _ h) (r.stay st) (ih e e2 (hV.mp nd).2 λc hc=>k c (a9 _ hc))
   obtain⟨c,xs,z1,z2,_⟩:=q.at (i:=i) e;cases (show some (some (V.ref c))=some (some (V.ref a))from z1.symm.trans e2)
   exact (hV.mp nd).1 (by rw[z];exact z2)
section
variable{g:G}
theorem fU(h:(g.set i (.dat d))[j]?=some (.own l)):g[j]?=some (.own l)/\j≠i:=by
 by_cases e:i=j
 .
  subst e;by_cases hi:i<g.length
  . rw[fI hi]at h;cases h
  . rw[l7.mpr (by rw[pV];lia)]at h;cases h
 . rw[eM e]at h;exact⟨h,mP e⟩
theorem S.freeze(s:S z g σ As M H){i:Nat}{l:List D}(hg:g[i]?=some (.own l))(hb:i∉z.bor):∃aC M',S z (g.set i (.dat (.lst l))) σ aC M' H/\aq M H M' H:=by
 obtain⟨a,xs,e1,e2,e3,e4⟩:=s.sl.at hg;have h0:z.H0 a=none:=(s.own i a l hg e1).elim (λq=>absurd q.1 hb) id
 have hM:∀m∈(M.filter λm=>decide (m≠a)),m∈M:=λm hm=>(i8.mp hm).1
 have na:a∉(M.filter λm=>decide (m≠a)):=λhm=>by
  have:=(i8.mp hm).2;simp at this
 obtain⟨aC,q1,q2,q3⟩:=s.sl.freeze hM hg e1 na s.nd;refine⟨aC,_,⟨q1,s.nd.sublist q2,λb hb=>i8.mpr ⟨s.sub b (q2.subset hb),?_⟩,λj b l' h1 h2=>s.own j b l' (fU h1).1 h2,λm hm=>s.live m (hM m hm),s.keep,λm hm=>i8.mpr ⟨s.iu m hm,?_⟩,s.m0,s.bm,λp hp=>⟨(s.iT p hp).1,?_⟩,s.tab,s.tm,s.tt⟩,aq.less hM⟩
 rotate_left 2
 .
  have:i≠p.1:=λe=>hb (by rw[e];exact sB (f:=(·.1)) hp)
  rw[eM this];exact (s.iT p hp).2
 .
  have:b≠a:=λe=>q3 (e▸hb)
  simpa using this
 .
  have:m≠a:=λe=>s.m0 m hm (e▸h0)
  simpa using this
theorem S.write(s:S z g σ As M H){i:Nat}{l l':List D}{a:Addr}{xs':List V}(hg:g[i]?=some (.own l))(e1:σ[i]?=some (some (.ref a)))(r:aI z.K M H l' xs'):S z (g.set i (.own l')) σ As M (upd H a (.lst xs'))/\aq M H M (upd H a (.lst xs')):=by
 obtain⟨b,xs,e2,e3,e4,e5⟩:=s.sl.at hg;rw[e1]at e2;injection e2 with e2;injection e2 with e2;injection e2 with e2;subst e2;have st:aq M H M (upd H a (.lst xs')):=aq.write (s.sub a e3);refine⟨⟨s.sl.change st aA (r.stay st) hg e1 s.nd (λb _ ne o e=>by rw[az ne];exact e),s.nd,s.sub,λj b l2 h1 h2=>?_,λm hm=>?_,λb o e hb ht=>?_,s.iu,s.m0,s.bm,λp hp=>⟨(s.iT p hp).1,?_⟩,λp h=>(s.tab p h).keep λb u e nl=>?_,s.tm,s.tt⟩,st⟩
 rotate_left 3
 .
  by_cases hj:i=p.1
  . rw[<- hj];exact⟨l',fI (b0.mp hg).1⟩
  . rw[eM hj];exact (s.iT p hp).2
 .
  have:b≠a:=λz2=>by subst z2;rw[e4]at e;cases e;exact nl xs rfl
  rw[az this];exact e
 .
  by_cases hj:i=j
  . subst hj;exact s.own i b l hg h2
  . rw[eM hj]at h1;exact s.own j b l2 h1 h2
 .
  by_cases hm2:m=a
  . subst hm2;exact .inl ⟨xs',aA⟩
  .
   rcases s.live m hm with ⟨ys,e⟩ |e
   . exact .inl ⟨ys,by rw[az hm2];exact e⟩
   . exact .inr e
 .
  have q:=s.keep b o e hb ht;have:b≠a:=λz2=>by
   subst z2;rcases s.own i b l hg e1 with w |w
   . exact hb w.2
   . rw[w]at e;cases e
  rw[az this];exact q
theorem S.jx(s:S z g σ As M H)(hb:i∉z.bor)(r:Rep z.K M H d v):∃aC,S z (g.set i (.dat d)) (σ.set i (some v)) aC M H:=by
 obtain⟨aC,h1,h2⟩:=s.sl.jx r i;refine⟨aC,h1,s.nd.sublist h2,λa ha=>s.sub a (h2.subset ha),λj b l h3 h4=>?_,s.live,s.keep,s.iu,s.m0,s.bm,λp hp=>?_,s.tab,s.tm,s.tt⟩
 rotate_left
 .
  have:i≠p.1:=λe=>hb (by rw[e];exact sB (f:=(·.1)) hp)
  rw[eM this,eM this];exact s.iT p hp
 obtain⟨h5,h6⟩:=fU h3;rw[eM (mP h6)]at h4;exact s.own j b l h5 h4
theorem Slots.oz{K:Frag}{a:Addr}{xs:List V}{l:List D}(h:H a=some (.lst xs))(r:aI K M H l xs){g:G}{σ:Sg}{As:List Addr}(i:Nat)(q:Slots K M H g σ As)(hi:i<g.length):∃aC,Slots K M H (g.set i (.own l)) (σ.set i (some (.ref a))) aC/\(∀b∈aC,b=a\/b∈As)/\(As.Nodup->a∉As->aC.Nodup):=by
 induction q generalizing i with
 |nil=>exact absurd hi (BH _)
 |no q ih=>cases i with
  |zero=>exact⟨_,.own h r q,λb hb=>d6.mp hb,λnd na=>hV.mpr ⟨na,nd⟩⟩
  |succ i=>obtain⟨aC,h1,h2,h3⟩:=ih i (AK hi);exact⟨aC,.no h1,h2,h3⟩
 |dat r' q ih=>cases i with
  |zero=>exact⟨_,.own h r q,λb hb=>d6.mp hb,λnd na=>hV.mpr ⟨na,nd⟩⟩
  |succ i=>obtain⟨aC,h1,h2,h3⟩:=ih i (AK hi);exact⟨aC,.dat r' h1,h2,h3⟩
 |@own g σ As c ys ds e r' q ih=>cases i with
  |zero=>exact⟨_,.own h r q,λb hb=>(d6.mp hb).imp id (a9 _),λnd na=>hV.mpr ⟨λz=>na (a9 _ z),(hV.mp nd).2⟩⟩
  |succ i=>obtain⟨aC,h1,h2,h3⟩:=ih i (AK hi);exact⟨c::aC,.own e r' h1,λb hb=>(d6.mp hb).elim (λz=>.inr (z▸dA)) λz=>(h2 b z).imp id (a9 _),λnd na=>hV.mpr ⟨λz=>(h2 c z).elim (λw=>na (w▸dA)) (hV.mp nd).1,h3 (hV.mp nd).2 λw=>na (a9 _ w)⟩⟩
theorem S.oz(s:S z g σ As M H){i:Nat}{l:List D}{a:Addr}{xs:List V}(hb:i∉z.bor)(hi:i<g.length)(hm:a∈M)(hA:a∉As)(h0:z.H0 a=none)(h:H a=some (.lst xs))(r:aI z.K M H l xs):∃aC,S z (g.set i (.own l)) (σ.set i (some (.ref a))) aC M H:=by
 obtain⟨aC,h1,h2,h3⟩:=s.sl.oz h r i hi;refine⟨aC,h1,h3 s.nd hA,λb hb=>(h2 b hb).elim (λe=>e▸hm) (s.sub b),λj b l2 h4 h5=>?_,s.live,s.keep,s.iu,s.m0,s.bm,λp hp=>?_,s.tab,s.tm,s.tt⟩
 rotate_left
 .
  have:i≠p.1:=λe=>hb (by rw[e];exact sB (f:=(·.1)) hp)
  rw[eM this,eM this];exact s.iT p hp
 by_cases hj:i=j
 .
  subst hj;rw[fI (by rw[<- s.sl.length];exact hi)]at h5
  injection h5 with h5;injection h5 with h5;injection h5 with h5;subst h5;exact .inr h0
 . rw[eM hj]at h4 h5;exact s.own j b l2 h4 h5
end
abbrev Kn (z:Z) (g':G) (σ:Sg) (M:List Addr) (H:Hp) (r:R) (Q:VK):Prop:=
 ∀v H' aC M',S z g' σ aC M' H'->aq M H M' H'->cN z g' σ aC M' H' r v->Q v H'
def aD(X:Cx)(z:Z)(e:Expr)(g:G)(r:R)(g':G):Prop:=
 ∃t,PE X e t/\∀σ As M H Q,S z g σ As M H->Kn z g' σ M H r Q->t σ H Q
def cg(X:Cx)(z:Z)(e:Expr)(g:G)(b:Bool)(g':G):Prop:=
 ∃t,PT X e t/\∀σ As M H (Q:Bool->Hp->Prop),S z g σ As M H->(∀H' aC M',S z g' σ aC M' H'->aq M H M' H'->Q b H')->t σ H Q
def nh(X:Cx)(z:Z)(f:Value->Value->Sem Value)(d1 d2:D)(res:R):Prop:=
 ∃r:R2,mY X f r/\∀g σ As M H v1 v2 Q,S z g σ As M H->Pk z.K M H d1 v1->Pk z.K M H d2 v2->Kn z g σ M H res Q->r v1 v2 H Q
def WQ(X:Cx)(z:Z)(d1 d2:D)(res:R):Prop:=
 ∃r:R2,Zr X r/\∀g σ As M H v1 v2 Q,S z g σ As M H->Pk z.K M H d1 v1->Pk z.K M H d2 v2->Kn z g σ M H res Q->r v1 v2 H Q
def UnD(X:Cx)(z:Z)(f:Value->Sem Value)(d:D)(res:R):Prop:=
 ∃r:V->Hp->VK->Prop,Zm X f r/\∀g σ As M H v Q,S z g σ As M H->Pk z.K M H d v->Kn z g σ M H res Q->r v H Q
noncomputable def pk:R->G->Option D
 |.dat d,_=>some d
 |.new _,_=>none
 |.var i,g=>match g[i]? with |some (.own l)=>some (.lst l) |_=>none
section
theorem S.pk(s:S z g2 σ As M2 H2)(st:aq M1 H1 M2 H2)(q:cN z g1 σ aO M1 H1 r v)(h:pk r g2=some d):Pk z.K M2 H2 d v:=by
 cases r with
 |dat d'=>have e:d'=d:=oQ h;subst e;exact .of (Rep.stay st q)
 |new l=>cases h
 |var i=>
  obtain⟨l,h1,h2⟩:=q;unfold Ev.pk at h;dsimp only at h;split at h
  . rename_i l' hg;have e:=oQ h;subst e;obtain⟨a,xs,e1,e2,e3,e4⟩:=s.sl.at hg;rw[h2]at e1;injection e1 with e1;injection e1 with e1;subst e1;exact .lst e3 e4
  . cases h
theorem Ql{i j}:aD X z (.Constant (.int i) j pos) g (.dat (.int i)) g:=⟨_,DN,λσ As M H Q s k=>k _ _ _ _ s (aq.refl _ _) (.int i)⟩
theorem WR{i j}:aD X z (.Constant (.bool i) j pos) g (.dat (.bl i)) g:=⟨_,V1,λσ As M H Q s k=>k _ _ _ _ s (aq.refl _ _) (.bl i)⟩
theorem Qm{j}:aD X z (.Constant .none j pos) g (.dat .non) g:=⟨_,DP,λσ As M H Q s k=>k _ _ _ _ s (aq.refl _ _) .non⟩
theorem Qn{x j}:aD X z (.Constant (.str x) j pos) g (.dat (.str x)) g:=⟨_,Pp,λσ As M H Q s k=>k _ _ _ _ s (aq.refl _ _) (.str x)⟩
theorem Qo{i:Nat}{x:Str}(hN:X.N[i]?=some x)(hv:gR X.env.scope x)(hd:(x==("__debug__":Str))=false)(bE:(x==("__classdict__":Str))=false)(hg:g[i]?=some (.dat d)):aD X z (.Name x pos) g (.dat d) g:=
 ⟨_,bM hN hv hd bE,λσ As M H Q s k=>let ⟨v,e,r⟩:=s.sl.y9 hg;⟨v,e,k v H As M s (aq.refl _ _) r⟩⟩
theorem J0(hN:X.N[i]?=some x)(hv:gR X.env.scope x)(hd:(x==("__debug__":Str))=false)(bE:(x==("__classdict__":Str))=false)(hg:g[i]?=some (.own l)):aD X z (.Name x pos) g (.var i) g:=
 ⟨_,bM hN hv hd bE,λσ As M H Q s k=>let ⟨a,xs,e,r⟩:=s.sl.at hg;⟨_,e,k _ H As M s (aq.refl _ _) ⟨l,hg,e⟩⟩⟩
theorem J1(hg:Gl X x)(hm:X.mg x=some u)(r:RelV v u)(hr:∀M H,Rep z.K M H d v)(hd:(x==("__debug__":Str))=false):aD X z (.Name x pos) g (.dat d) g:=
 ⟨_,yP hg hm r hd,λσ As M H Q s k=>k _ H As M s (aq.refl _ _) (hr M H)⟩
theorem oA(h:aD X z e g (.new l) g'):aD X z e g (.dat (.lst l)) g':=by
 obtain⟨t,p,q⟩:=h;refine⟨t,p,λσ As M H Q s k=>q σ As M H Q s λv H' aC M' s' st r=>?_⟩
 obtain⟨a,xs,rfl,hm,hA,h0,ha,rr⟩:=r;have hM:∀m∈(M'.filter λm=>decide (m≠a)),m∈M':=λm hm=>(i8.mp hm).1
 have na:a∉(M'.filter λm=>decide (m≠a)):=λhm=>by
  have:=(i8.mp hm).2;simp at this
 exact k _ H' aC _ (s'.drop h0 hA) (st.trans (aq.less hM)) (.lst ⟨na,ha⟩ (rr.stay (aq.less hM)))
theorem Ay(h:aD X z e g (.var i) g1)(hg:g1[i]?=some (.own l))(hb:i∉z.bor):aD X z e g (.dat (.lst l)) (g1.set i (.dat (.lst l))):=by
 obtain⟨t,p,q⟩:=h;refine⟨t,p,λσ As M H Q s k=>q σ As M H Q s λv H' aC M' s' st r=>?_⟩
 obtain⟨l',h1,h2⟩:=r;obtain⟨bw,M2,s2,aK⟩:=s'.freeze hg hb;have hi:i<g1.length:=(b0.mp hg).1;obtain⟨v',e1,e2⟩:=s2.sl.y9 (i:=i) (d:=.lst l) (by rw[fI hi])
 rw[h2]at e1;injection e1 with e1;injection e1 with e1;subst e1;exact k _ H' bw M2 s2 (st.trans aK) e2
theorem Qp(h1:aD X z a g r1 g1)(h2:aD X z b g1 r2 g2)(p1:pk r1 g2=some d1)(p2:pk r2 g2=some d2)(ho:nh X z (binaryOp op) d1 d2 r):aD X z (.BinOp a op b pos) g r g2:=by
 obtain⟨t1,q1,k1⟩:=h1;obtain⟨t2,q2,k2⟩:=h2;obtain⟨rr,o,ko⟩:=ho;exact⟨_,Wg o q1 q2,λσ As M H Q s k=>k1 σ As M H _ s λv1 H1 aO M1 s1 cI R1=>k2 σ aO M1 H1 _ s1 λv2 H2 bw M2 s2 aK R2=>
  ko g2 σ bw M2 H2 v1 v2 Q s2 (s2.pk aK R1 p1) (s2.pk (aq.refl _ _) R2 p2) λv H' aC M' s' st' R'=>k v H' aC M' s' (cI.trans (aK.trans st')) R'⟩
theorem Qq(h1:aD X z a g r1 g1)(h2:aD X z b g1 r2 g2)(p1:pk r1 g2=some d1)(p2:pk r2 g2=some d2)(ho:nh X z (compareOp op) d1 d2 r)(hm:behindInMarks op b=false):aD X z (.Compare a [op] [b] pos) g r g2:=by
 obtain⟨t1,q1,k1⟩:=h1;obtain⟨t2,q2,k2⟩:=h2;obtain⟨rr,o,ko⟩:=ho;exact⟨_,yS o q1 q2 hm,λσ As M H Q s k=>k1 σ As M H _ s λv1 H1 aO M1 s1 cI R1=>k2 σ aO M1 H1 _ s1 λv2 H2 bw M2 s2 aK R2=>
  ko g2 σ bw M2 H2 v1 v2 Q s2 (s2.pk aK R1 p1) (s2.pk (aq.refl _ _) R2 p2) λv H' aC M' s' st' R'=>k v H' aC M' s' (cI.trans (aK.trans st')) R'⟩
theorem WT(h1:aD X z a g r1 g1)(h2:aD X z b g1 r2 g2)(p1:pk r1 g2=some d1)(p2:pk r2 g2=some d2)(ho:WQ X z d1 d2 r)(hs:sG b):aD X z (.Subscript a b pos) g r g2:=by
 obtain⟨t1,q1,k1⟩:=h1;obtain⟨t2,q2,k2⟩:=h2;obtain⟨rr,o,ko⟩:=ho;exact⟨_,N3 o q1 q2 hs,λσ As M H Q s k=>k1 σ As M H _ s λv1 H1 aO M1 s1 cI R1=>k2 σ aO M1 H1 _ s1 λv2 H2 bw M2 s2 aK R2=>
  ko g2 σ bw M2 H2 v1 v2 Q s2 (s2.pk aK R1 p1) (s2.pk (aq.refl _ _) R2 p2) λv H' aC M' s' st' R'=>k v H' aC M' s' (cI.trans (aK.trans st')) R'⟩
theorem WW(h1:aD X z a g r1 g1)(p1:pk r1 g1=some d1)(ho:UnD X z (unaryOp op) d1 r):aD X z (.UnaryOp op a pos) g r g1:=by obtain⟨t1,q1,k1⟩:=h1;obtain⟨rr,o,ko⟩:=ho;exact⟨_,Wh o q1,λσ As M H Q s k=>k1 σ As M H _ s λv1 H1 aO M1 s1 cI R1=>ko g1 σ aO M1 H1 v1 Q s1 (s1.pk (aq.refl _ _) R1 p1) λv H' aC M' s' st' R'=>k v H' aC M' s' (cI.trans st') R'⟩
theorem fD(q:cN z g σ As M H (.dat (.bl c)) v):v=.bl c:=by have q':Rep z.K M H (.bl c) v:=q;cases q';rfl
theorem Qs(h1:aD X z a g r1 g1)(h2:aD X z b g1 r2 g2)(p1:pk r1 g2=some d1)(p2:pk r2 g2=some d2)(ho:nh X z (compareOp op) d1 d2 (.dat (.bl c)))(hm:behindInMarks op b=false):cg X z (.Compare a [op] [b] pos) g c g2:=by
 obtain⟨t1,q1,k1⟩:=h1;obtain⟨t2,q2,k2⟩:=h2;obtain⟨rr,o,ko⟩:=ho;exact⟨_,sC o q1 q2 hm,λσ As M H Q s k=>k1 σ As M H _ s λv1 H1 aO M1 s1 cI R1=>k2 σ aO M1 H1 _ s1 λv2 H2 bw M2 s2 aK R2=>
  ko g2 σ bw M2 H2 v1 v2 _ s2 (s2.pk aK R1 p1) (s2.pk (aq.refl _ _) R2 p2) λv H' aC M' s' st' R'=>⟨c,fD R',k H' aC M' s' (cI.trans (aK.trans st'))⟩⟩
theorem Qt(h:cg X z a g c g'):cg X z (.UnaryOp .Not a pos) g (!c) g':=by obtain⟨t,q,k⟩:=h;exact⟨_,DQ q,λσ As M H Q s kk=>k σ As M H _ s λH' aC M' s' st=>kk H' aC M' s' st⟩
def ni(X:Cx)(z:Z)(e:Expr)(g:G)(b:Bool)(g':G):Prop:=
 ∃t,PW X e t/\∀σ As M H (Q:Bool->Hp->Prop),S z g σ As M H->(∀H' aC M',S z g' σ aC M' H'->aq M H M' H'->Q b H')->t σ H Q
theorem ni.tr(h:ni X z e g c g'):cg X z e g c g':=let ⟨t,q,k⟩:=h;⟨t,q.pt,k⟩
theorem J2(h:cg X z a g c g'):ni X z (.BoolOp .And [a] pos) g c g':=let ⟨t,q,k⟩:=h;⟨t,pw_and1 q,k⟩
theorem Qu(h:cg X z a g c g'):ni X z (.BoolOp .Or [a] pos) g c g':=let ⟨t,q,k⟩:=h;⟨t,pw_or1 q,k⟩
def tNo:TT:=λ_ _ _=>False
theorem pw_never:PW X e tNo:=λ_ _ _ _ _ _ _ h=>h.elim
theorem jZ:PE X e (λ_ _ _=>False):=λ_ _ _ _ _ _ h=>h.elim
theorem J3{rest:List Expr}(h:cg X z a g false g1):ni X z (.BoolOp .And (a::b::rest) pos) g false g1:=by obtain⟨t,q,k⟩:=h;exact⟨_,pw_and q pw_never,λσ As M H Q s kk=>k σ As M H _ s λH' aC M' s' st=>ng (kk H' aC M' s' st)⟩
theorem J4{rest:List Expr}{c:Bool}(h:cg X z a g true g1)(h2:ni X z (.BoolOp .And (b::rest) pos) g1 c g2):ni X z (.BoolOp .And (a::b::rest) pos) g c g2:=by obtain⟨t,q,k⟩:=h;obtain⟨t2,q2,k2⟩:=h2;exact⟨_,pw_and q q2,λσ As M H Q s kk=>k σ As M H _ s λH' aC M' s' st=>jw (k2 σ aC M' H' Q s' λH2 bw M2 s2 aK=>kk H2 bw M2 s2 (st.trans aK))⟩
theorem Qv{rest:List Expr}(h:cg X z a g true g1):ni X z (.BoolOp .Or (a::b::rest) pos) g true g1:=by obtain⟨t,q,k⟩:=h;exact⟨_,pw_or q pw_never,λσ As M H Q s kk=>k σ As M H _ s λH' aC M' s' st=>jw (kk H' aC M' s' st)⟩
theorem Qw{rest:List Expr}{c:Bool}(h:cg X z a g false g1)(h2:ni X z (.BoolOp .Or (b::rest) pos) g1 c g2):ni X z (.BoolOp .Or (a::b::rest) pos) g c g2:=by obtain⟨t,q,k⟩:=h;obtain⟨t2,q2,k2⟩:=h2;exact⟨_,pw_or q q2,λσ As M H Q s kk=>k σ As M H _ s λH' aC M' s' st=>ng (k2 σ aC M' H' Q s' λH2 bw M2 s2 aK=>kk H2 bw M2 s2 (st.trans aK))⟩
theorem El(h:aD X z a g r g'):aD X z (.BoolOp op [a] pos) g r g':=let ⟨t,q,k⟩:=h;⟨t,Pu q,k⟩
theorem J5{rest:List Expr}(h:aD X z a g (.dat (.bl false)) g1):aD X z (.BoolOp .And (a::b::rest) pos) g (.dat (.bl false)) g1:=by obtain⟨t,q,k⟩:=h;exact⟨_,DR q jZ,λσ As M H Q s kk=>k σ As M H _ s λv H' aC M' s' st R=>⟨false,fD R,ng (kk _ H' aC M' s' st (.bl false))⟩⟩
theorem J6{rest:List Expr}(h:aD X z a g (.dat (.bl true)) g1)(h2:aD X z (.BoolOp .And (b::rest) pos) g1 r g2):aD X z (.BoolOp .And (a::b::rest) pos) g r g2:=by obtain⟨t,q,k⟩:=h;obtain⟨t2,q2,k2⟩:=h2;exact⟨_,DR q q2,λσ As M H Q s kk=>k σ As M H _ s λv H' aC M' s' st R=>⟨true,fD R,jw (k2 σ aC M' H' Q s' λv2 H2 bw M2 s2 aK=>kk v2 H2 bw M2 s2 (st.trans aK))⟩⟩
theorem Qx{rest:List Expr}(h:aD X z a g (.dat (.bl true)) g1):aD X z (.BoolOp .Or (a::b::rest) pos) g (.dat (.bl true)) g1:=by obtain⟨t,q,k⟩:=h;exact⟨_,NT q jZ,λσ As M H Q s kk=>k σ As M H _ s λv H' aC M' s' st R=>⟨true,fD R,jw (kk _ H' aC M' s' st (.bl true))⟩⟩
theorem Qy{rest:List Expr}(h:aD X z a g (.dat (.bl false)) g1)(h2:aD X z (.BoolOp .Or (b::rest) pos) g1 r g2):aD X z (.BoolOp .Or (a::b::rest) pos) g r g2:=by obtain⟨t,q,k⟩:=h;obtain⟨t2,q2,k2⟩:=h2;exact⟨_,NT q q2,λσ As M H Q s kk=>k σ As M H _ s λv H' aC M' s' st R=>⟨false,fD R,ng (k2 σ aC M' H' Q s' λv2 H2 bw M2 s2 aK=>kk v2 H2 bw M2 s2 (st.trans aK))⟩⟩
theorem Qz(h:aD X z a g (.dat (.bl c)) g1):aD X z (.UnaryOp .Not a pos) g (.dat (.bl (!c))) g1:=by obtain⟨t,q,k⟩:=h;exact⟨_,Pw q,λσ As M H Q s kk=>k σ As M H _ s λv H' aC M' s' st R=>⟨c,fD R,kk _ H' aC M' s' st (.bl _)⟩⟩
theorem QB(h:cg X z c g true g1)(h2:aD X z a g1 r g2):aD X z (.IfExp c a b pos) g r g2:=by obtain⟨t,q,k⟩:=h;obtain⟨t2,q2,k2⟩:=h2;exact⟨_,uG q q2 jZ,λσ As M H Q s kk=>k σ As M H _ s λH' aC M' s' st=>jw (k2 σ aC M' H' Q s' λv2 H2 bw M2 s2 aK=>kk v2 H2 bw M2 s2 (st.trans aK))⟩
theorem QC(h:cg X z c g false g1)(h2:aD X z b g1 r g2):aD X z (.IfExp c a b pos) g r g2:=by obtain⟨t,q,k⟩:=h;obtain⟨t2,q2,k2⟩:=h2;exact⟨_,uG q jZ q2,λσ As M H Q s kk=>k σ As M H _ s λH' aC M' s' st=>ng (k2 σ aC M' H' Q s' λv2 H2 bw M2 s2 aK=>kk v2 H2 bw M2 s2 (st.trans aK))⟩
inductive jy(z:Z)(σ:Sg)(M:List Addr)(H:Hp):List R->List V->Prop
 |nil:jy z σ M H [] []
 |dat {d:D}{v:V}{rs:List R}{vs:List V}:Rep z.K M H d v->jy z σ M H rs vs->jy z σ M H (.dat d::rs) (v::vs)
 |var {i:Nat}{v:V}{rs:List R}{vs:List V}:σ[i]?=some (some v)->jy z σ M H rs vs->jy z σ M H (.var i::rs) (v::vs)
def cO(X:Cx)(z:Z)(es:List Expr)(g:G)(rs:List R)(g':G):Prop:=
 ∃t,PA X es t/\∀σ As M H (Q:List V->Hp->Prop),S z g σ As M H->(∀vs H' aC M',S z g' σ aC M' H'->aq M H M' H'->jy z σ M' H' rs vs->Q vs H')->t σ H Q
theorem eL:cO X z [] g [] g:=⟨_,dW,λσ As M H Q s k=>k [] H As M s (aq.refl _ _) .nil⟩
theorem cF(h:aD X z e g (.dat d) g1)(h2:cO X z es g1 rs g2)(hs:starEach (e::es) X.env=(false,eval e X.env)::starEach es X.env):cO X z (e::es) g (.dat d::rs) g2:=by obtain⟨t,q,k⟩:=h;obtain⟨t2,q2,k2⟩:=h2;exact⟨_,bC q q2 hs,λσ As M H Q s kk=>k σ As M H _ s λv H' aC M' s' st R=>k2 σ aC M' H' _ s' λvs H2 bw M2 s2 aK R2=>kk _ H2 bw M2 s2 (st.trans aK) (.dat (Rep.stay aK R) R2)⟩
theorem QD(h:aD X z e g (.var i) g1)(h2:cO X z es g1 rs g2)(hs:starEach (e::es) X.env=(false,eval e X.env)::starEach es X.env):cO X z (e::es) g (.var i::rs) g2:=by obtain⟨t,q,k⟩:=h;obtain⟨t2,q2,k2⟩:=h2;exact⟨_,bC q q2 hs,λσ As M H Q s kk=>k σ As M H _ s λv H' aC M' s' st ⟨_,_,R⟩=>k2 σ aC M' H' _ s' λvs H2 bw M2 s2 aK R2=>kk _ H2 bw M2 s2 (st.trans aK) (.var R R2)⟩
inductive J7(K:Frag)(M:List Addr)(H:Hp):List D->List V->Prop
 |nil:J7 K M H [] []
 |cons {d:D}{v:V}{ds:List D}{vs:List V}:Pk K M H d v->J7 K M H ds vs->J7 K M H (d::ds) (v::vs)
def Az:List R->G->Option (List D)
 | [],_=>some []
 |r::rs,g=>match pk r g,Az rs g with
  |some d,some ds=>some (d::ds)
  |_,_=>none
theorem S.Az(s:S z g σ As M H)(q:jy z σ M H rs vs)(e:Az rs g=some ds):J7 z.K M H ds vs:=by
 induction q generalizing ds with
 |nil=>cases e;exact .nil
 |@dat d v rs vs r q ih=>
  unfold Ev.Az at e;cases e2:Ev.Az rs g with
  |none=>rw[e2]at e;cases e
  |some ds=>rw[e2]at e;cases e;exact .cons (.of r) (ih e2)
 |@var i v rs vs r q ih=>
  unfold Ev.Az at e;cases e1:Ev.pk (.var i) g with
  |none=>rw[e1]at e;cases e
  |some d=>
   cases e2:Ev.Az rs g with
   |none=>rw[e1,e2]at e;cases e
   |some ds=>
    rw[e1,e2]at e;cases e;unfold Ev.pk at e1;dsimp only at e1;split at e1
    . rename_i l hg;cases e1;obtain⟨a,xs,h1,h2,h3,h4⟩:=s.sl.at hg;rw[r]at h1;injection h1 with h1;injection h1 with h1;subst h1;exact .cons (.lst h3 h4) (ih e2)
    . cases e1
noncomputable def uO:List R->Option (List D)
 | []=>some []
 |.dat d::rs=>match uO rs with |some ds=>some (d::ds) |none=>none
 |_::_=>none
theorem za(q:jy z σ M H rs vs)(e:uO rs=some ds):aI z.K M H ds vs:=by
 induction q generalizing ds with
 |nil=>cases e;exact .nil
 |@dat d v rs vs r q ih=>
  unfold uO at e;cases e2:uO rs with
  |none=>rw[e2]at e;cases e
  |some ds=>rw[e2]at e;cases e;exact .cons r (ih e2)
 |var _ _ _=>cases e
theorem oB(h:n<=16777216):n<=sizeLine:=by rw[nK];exact h
theorem QF{x1}(h:cO X z es g rs g')(hd:uO rs=some ds)(hl:ds.length<=16777216):aD X z (.Tuple es x1 pos) g (.dat (.tup ds)) g':=by
 obtain⟨t,q,k⟩:=h;refine⟨_,Ea q,λσ As M H Q s kk=>k σ As M H _ s λvs H' aC M' s' st R=>?_⟩
 have rr:=za R hd;refine⟨by rw[<- rr.length];exact oB hl,λp hp=>kk _ _ aC M' (s'.laid hp) (st.trans (aq.laid hp)) (.tup (.inl ⟨s'.fresh hp,.inl aA⟩) (rr.stay (aq.laid hp)))⟩
theorem QG(h:cO X z es g rs g')(hd:uO rs=some ds)(hl:ds.length<=16777216):aD X z (.List es pos) g (.new ds) g':=by
 obtain⟨t,q,k⟩:=h;refine⟨_,wR q,λσ As M H Q s kk=>k σ As M H _ s λvs H' aC M' s' st R=>?_⟩
 have rr:=za R hd;refine⟨by rw[<- rr.length];exact oB hl,λp hp=>kk _ _ aC (p::M') (s'.aQ hp) (st.trans (aq.aQ hp)) ⟨p,vs,rfl,dA,λhA=>s'.fresh hp (s'.sub p hA),s'.bW hp,aA,rr.stay (aq.aQ hp)⟩⟩
def CallD(X:Cx)(z:Z)(f:Value)(ds:List D)(res:R):Prop:=
 ∃r,fC X f r/\∀g σ As M H vs Q,S z g σ As M H->J7 z.K M H ds vs->Kn z g σ M H res Q->r vs H Q
theorem fV{x:Str}{id:String}{p:Pos}{es:List Expr}{rs:List R}{ds:List D}(h:cO X z (e::es) g rs g')(hp:Az rs g'=some ds)(hc:CallD X z (.builtin id) ds r)(hg:Gl X x)(hm:X.mg x=none)(hv:bootBuiltins x=some (.builtin id))(hn:x≠ "__name__")(jt:(x==("__debug__":Str))=false)
  (he:starEach (e::es) X.env=(false,eval e X.env)::starEach es X.env) (gQ:(backTo pos (starEach es X.env)).any (·.1)=false):aD X z (.Call (.Name x p) (e::es) [] pos) g r g':=by
 obtain⟨t,q,k⟩:=h;obtain⟨rr,c,kc⟩:=hc;exact⟨_,jV c hg hm hv q hn jt he gQ,λσ As M H Q s kk=>k σ As M H _ s λvs H' aC M' s' st R=>kc g' σ aC M' H' vs Q s' (s'.Az R hp) λv H2 bw M2 s2 aK R2=>kk v H2 bw M2 s2 (st.trans aK) R2⟩
theorem kY(h:cO X z (e::es) g rs g')(hp:Az rs g'=some ds)(hc:CallD X z (.type T) ds r)(hg:Gl X x)(hm:X.mg x=none)(hv:bootBuiltins x=some (.type T))(hn:x≠ "__name__")(jt:(x==("__debug__":Str))=false)
  (he:starEach (e::es) X.env=(false,eval e X.env)::starEach es X.env) (gQ:(backTo pos (starEach es X.env)).any (·.1)=false):aD X z (.Call (.Name x p) (e::es) [] pos) g r g':=by
 obtain⟨t,q,k⟩:=h;obtain⟨rr,c,kc⟩:=hc;exact⟨_,Am c hg hm hv q hn jt he gQ,λσ As M H Q s kk=>k σ As M H _ s λvs H' aC M' s' st R=>kc g' σ aC M' H' vs Q s' (s'.Az R hp) λv H2 bw M2 s2 aK R2=>kk v H2 bw M2 s2 (st.trans aK) R2⟩
end
mutual
noncomputable def bO:D->D->Bool
 |.non,.non=>true
 |.bl a,.bl b=>a==b
 |.bl a,.int j=>(if a then 1 else 0)==j
 |.int i,.bl b=>i==(if b then 1 else 0)
 |.int i,.int j=>i==j
 |.str x,.str y=>x==y
 |.tup l,.tup m=>dh l m
 |.lst l,.lst m=>dh l m
 |.lst l,.fix m=>dh l m
 |.fix l,.lst m=>dh l m
 |.fix l,.fix m=>dh l m
 |_,_=>false
noncomputable def dh:List D->List D->Bool
 | [],[]=>true
 |a::l,b::m=>bO a b&&dh l m
 |_,_=>false
end
mutual
noncomputable def dep:D->Nat
 |.tup l=>deps l+1
 |.lst l=>deps l+1
 |.fix l=>deps l+1
 |_=>0
noncomputable def deps:List D->Nat
 | []=>0
 |d::l=>max (dep d) (deps l)
end
mutual
noncomputable def gZ:D->Bool
 |.tup l=>jc l
 |.lst l=>jc l
 |.fix l=>jc l
 |.emp=>false
 |.mz _=>false
 |_=>true
noncomputable def jc:List D->Bool
 | []=>true
 |d::l=>gZ d&&jc l
end
mutual
inductive Dv(h:Heap):D->Value->Prop
 |non:Dv h .non .none
 |bl (b:Bool):Dv h (.bl b) (.bool b)
 |int (i:Int) (t:Tok):Dv h (.int i) (.int i t)
 |str (x:Str) (t:Tok):Dv h (.str x) (.str x t)
 |tup {l:List D}{a:Addr}{us:List Value}:IsTup h a us.toArray->nF h l us->Dv h (.tup l) (.ref a)
 |lst {l:List D}{a:Addr}{us:List Value}:h.IsList a us.toArray->nF h l us->Dv h (.lst l) (.ref a)
 |fix {l:List D}{a:Addr}{us:List Value}:h.IsList a us.toArray->nF h l us->Dv h (.fix l) (.ref a)
inductive nF(h:Heap):List D->List Value->Prop
 |nil:nF h [] []
 |cons {d:D}{ds:List D}{u:Value}{us:List Value}:Dv h d u->nF h ds us->nF h (d::ds) (u::us)
end
section
theorem Rep.dv2(I:Inv X ah σ H s)(q:Rep X.K M H d v):∀u,RelV v u->gZ d=true->Dv s.heap d u:=by
 refine Rep.rec (motive_1:=λd v _=>∀u,RelV v u->gZ d=true->Dv s.heap d u) (motive_2:=λds vs _=>∀us,Vals vs us->jc ds=true->nF s.heap ds us) ?_ ?_ ?_ ?_ ?_ ?_ ?_ ?_ ?_ ?_ ?_ q
 . intro u r _;cases r;exact .non
 . intro b u r _;cases r;exact .bl b
 . intro i u r _;obtain⟨t,rfl⟩:=r;exact .int i t
 . intro x u r _;obtain⟨t,rfl⟩:=r;exact .str x t
 . intro l a xs h _ ih u r p;cases r;obtain⟨its,rv,ht,hz⟩:=I.tuple h.sq;exact .tup ht (ih _ rv p)
 . intro l a xs h _ ih u r p;cases r;obtain⟨its,rv,ht,hz⟩:=I.list (bZ.of h.2);exact .lst ht.isList (ih _ rv p)
 . intro l a xs h _ ih u r p;cases r;obtain⟨its,rv,ht,hz⟩:=I.list h.sq;exact .fix ht.isList (ih _ rv p)
 . intro a _ _ u _ p;exact Bool.noConfusion (show false=true from p)
 . intro C a _ _ _ u _ p;exact Bool.noConfusion (show false=true from p)
 . intro us r _;cases r;exact .nil
 .
  intro d ds x xs _ _ i1 i2 us r p;cases r with
  |cons r1 r2=>have p:(gZ d&&jc ds)=true:=p;rw[eC]at p;exact .cons (i1 _ r1 p.1) (i2 _ r2 p.2)
theorem Rep.dv(I:Inv X ah σ H s)(q:Rep X.K M H d v)(r:RelV v u)(p:gZ d=true):Dv s.heap d u:=q.dv2 I u r p
theorem aI.dv(I:Inv X ah σ H s)(q:aI X.K M H ds vs)(r:Vals vs us)(p:jc ds=true):nF s.heap ds us:=by
 induction ds generalizing vs us with
 |nil=>cases q;cases r;exact .nil
 |cons d ds ih=>cases q with |cons q1 q2=>cases r with |cons r1 r2=>have p:(gZ d&&jc ds)=true:=p;rw[eC]at p;exact .cons (q1.dv I r1 p.1) (ih q2 r2 p.2)
theorem Pk.dv(I:Inv X ah σ H s)(h:Pk X.K M H d v)(r:RelV v u)(p:gZ d=true):Dv s.heap d u:=by
 cases h with
 |of q=>exact q.dv I r p
 |lst h q=>cases r;obtain⟨its,rv,ht,hz⟩:=I.list (bZ.of h);exact .lst ht.isList (aI.dv I q rv (by simpa [gZ]using p))
end
theorem nF.length(q:nF h l us):l.length=us.length:=by
 induction l generalizing us with
 |nil=>cases q;rfl
 |cons d l ih=>cases q with |cons a b=>exact congrArg (· + 1) (ih b)
theorem rq{h:Heap}{a:Addr}{us ws:List Value}(x:IsTup h a us.toArray)(y:IsTup h a ws.toArray):us=ws:=by obtain⟨o,e,_,n,d⟩:=x;obtain⟨o',e',_,n',d'⟩:=y;rw[e]at e';cases e';rw[d]at d';injection d' with d1 _;simpa using congrArg Array.toList d1
theorem bQ{h:Heap}{a:Addr}{us ws:List Value}(x:h.IsList a us.toArray)(y:h.IsList a ws.toArray):us=ws:=by obtain⟨o,e,_,n,d⟩:=x;obtain⟨o',e',_,n',d'⟩:=y;rw[e]at e';cases e';rw[d]at d';injection d' with d1 _;simpa using congrArg Array.toList d1
theorem dR(x:IsTup h a us)(y:h.IsList a ws):False:=by obtain⟨o,e,c,_⟩:=x;obtain⟨o',e',c',_⟩:=y;rw[e]at e';cases e';rw[c]at c';injection c' with c';exact absurd c' ⋯
theorem Em{h:Heap}{d1:D}{u:Value}(q:Dv h d1 u):∀d2,Dv h d2 u->bO d1 d2=true:=by
 refine Dv.rec (motive_1:=λd1 u _=>∀d2,Dv h d2 u->bO d1 d2=true) (motive_2:=λl us _=>∀m,nF h m us->dh l m=true) ?_ ?_ ?_ ?_ ?_ ?_ ?_ ?_ ?_ q
 . intro d2 q;cases q;rfl
 . intro b d2 q;cases q;exact B2 b
 . intro i t d2 q;cases q;exact B2 i
 . intro x t d2 q;cases q;exact B2 x
 .
  intro l a us x _ ih d2 q;cases q with
  |tup y q'=>cases rq x y;exact ih _ q'
  |lst y _=>exact (dR x y).elim
  |fix y _=>exact (dR x y).elim
 .
  intro l a us x _ ih d2 q;cases q with
  |tup y _=>exact (dR y x).elim
  |lst y q'=>cases bQ x y;exact ih _ q'
  |fix y q'=>cases bQ x y;exact ih _ q'
 .
  intro l a us x _ ih d2 q;cases q with
  |tup y _=>exact (dR y x).elim
  |lst y q'=>cases bQ x y;exact ih _ q'
  |fix y q'=>cases bQ x y;exact ih _ q'
 . intro m q;cases q;rfl
 .
  intro d ds u us _ _ i1 i2 m q;cases q with
  |@cons d' m _ _ b q'=>show (bO d d'&&dh ds m)=true;rw[i1 _ b,i2 _ q'];rfl
theorem J8(q:Dv h d1 u)(q':Dv h d2 u):bO d1 d2=true:=Em q d2 q'
def N6(l m:List D)(j:Nat):Bool:=match l[j]?,m[j]? with |some a,some b=>bO a b |_,_=>false
theorem oE(l m:List D)(h:l.length=m.length):(List.range l.length).all (N6 l m)=dh l m:=by
 induction l generalizing m with
 |nil=>cases m with
  |nil=>rfl
  |cons _ _=>cases h
 |cons a l ih=>cases m with
  |nil=>cases h
  |cons b m=>rw[l6,List.range_succ_eq_map,List.all_cons,List.all_map];have e:(N6 (a::l) (b::m) ∘ Nat.succ)=N6 l m:=rfl;rw[e,ih m (B1 h)];rfl
theorem oF(l m:List D)(h:l.length≠m.length):dh l m=false:=by
 induction l generalizing m with
 |nil=>cases m with
  |nil=>exact absurd rfl h
  |cons _ _=>rfl
 |cons a l ih=>cases m with
  |nil=>rfl
  |cons b m=>show (bO a b&&dh l m)=false;rw[ih m (λe=>h (congrArg (· + 1) e)),Bool.and_false]
theorem uP(l m:List D):((List.range (min l.length m.length)).all (N6 l m)&&l.length==m.length)=dh l m:=by
 by_cases h:l.length=m.length
 . rw[h,Nat.min_self,<- h,oE l m h];simp
 .
  rw[oF l m h];have:(l.length==m.length)=false:=by simpa using h
  rw[this,Bool.and_false]
theorem oG{l:List D}{j:Nat}{d:D}(e:l[j]?=some d):dep d<=deps l:=by
 induction l generalizing j with
 |nil=>exact nomatch (show none=some d from e)
 |cons d' l ih=>cases j with
  |zero=>cases (show some d'=some d from e);exact Nat.le_max_left _ _
  |succ j=>exact i5 (ih (show l[j]?=some d from e)) (Nat.le_max_right _ _)
theorem nF.get{h:Heap}{l:List D}{us:List Value}{j:Nat}{u:Value}(q:nF h l us)(e:us[j]?=some u):∃d,l[j]?=some d/\Dv h d u:=by
 induction l generalizing us j with
 |nil=>cases q;exact nomatch (show none=some u from e)
 |cons d' l ih=>cases q with |@cons _ _ u' us a b=>cases j with
  |zero=>cases (show some u'=some u from e);exact⟨_,rfl,a⟩
  |succ j=>obtain⟨d,h⟩:=ih (j:=j) b e;exact⟨d,h⟩
theorem in1_units(A:Around):A.in1.units=A.units+1:=rfl
section
theorem j3(hl:s.heap.IsList l us.toArray)(hb:s.heap.IsList b ws.toArray)(q:nF s.heap ls us)(q':nF s.heap ms ws)(hu:A.units<cLine)
  (he:∀(j:Nat) d1 d2 u1 u2,ls[j]?=some d1->Dv s.heap d1 u1->Dv s.heap d2 u2->SeqAt.EqAt A.in1 s u1 u2 (bO d1 d2)):SeqAt.RcAt A s (.ref l) (.ref b) (dh ls ms):=by
 have h1:=q.length;have h2:=q'.length;by_cases h:ls.length=ms.length
 .
  rw[<- oE ls ms h];have e:us.toArray.size=ls.length:=by rw[dC,h1]
  rw[<- e];refine SeqAt.RcAt.lists hl hb (by rw[dC,dC];lia) hu λj g1 g2=>?_
  rw[dC]at g1 g2;obtain⟨d1,e1,v1⟩:=q.get (j:=j) (u:=us[j]) (by simp[g1])
  obtain⟨d2,e2,v2⟩:=q'.get (j:=j) (u:=ws[j]) (by simp[g2])
  have:=he j d1 d2 us[j] ws[j] e1 v1 v2;simpa [N6,e1,e2]using this
 . rw[oF ls ms h];refine SeqAt.RcAt.lists_lengths hl hb ?_ hu;rw[dC,dC];simp only[bne_iff_ne];lia
theorem Ba(hl:IsTup s.heap l us.toArray)(hb:IsTup s.heap b ws.toArray)(q:nF s.heap ls us)(q':nF s.heap ms ws)(hu:A.units<cLine)
  (he:∀(j:Nat) d1 d2 u1 u2,ls[j]?=some d1->Dv s.heap d1 u1->Dv s.heap d2 u2->SeqAt.EqAt A.in1 s u1 u2 (bO d1 d2)):SeqAt.RcAt A s (.ref l) (.ref b) (dh ls ms):=by
 have h1:=q.length;have h2:=q'.length;have e:us.toArray.size=ls.length:=by rw[dC,h1]
 have e':ws.toArray.size=ms.length:=by rw[dC,h2]
 rw[<- uP,<- e,<- e'];refine SeqAt.RcAt.tuples hl hb hu λj g1 g2=>?_
 rw[dC]at g1 g2;obtain⟨d1,e1,v1⟩:=q.get (j:=j) (u:=us[j]) (by simp[g1])
 obtain⟨d2,e2,v2⟩:=q'.get (j:=j) (u:=ws[j]) (by simp[g2])
 have:=he j d1 d2 us[j] ws[j] e1 v1 v2;simpa [N6,e1,e2]using this
theorem iz(x:Dv s.heap d1 (.ref l))(y:Dv s.heap d2 (.ref b))(h:SeqAt.RcAt A s (.ref l) (.ref b) (bO d1 d2)):SeqAt.EqAt A s (.ref l) (.ref b) (bO d1 d2):=by
 by_cases e:l=b
 . subst e;rw[J8 x y];exact .same _
 . exact .of_refs e h
end
theorem En{s:Shared}:∀(n:Nat) {d1 d2:D}{u1 u2:Value}{A:Around},dep d1<=n->Dv s.heap d1 u1->Dv s.heap d2 u2->A.units+n<cLine->SeqAt.EqAt A s u1 u2 (bO d1 d2)/\SeqAt.RcAt A s u1 u2 (bO d1 d2):=by
 intro n
 induction n with
 |zero=>
  intro d1 d2 u1 u2 A hn x y hu;have aP:A.units<cLine:=by lia
  cases x with
  |tup h q=>exact absurd hn (B3 _)
  |lst h q=>exact absurd hn (B3 _)
  |fix h q=>exact absurd hn (B3 _)
  |non=>
   cases y with
   |non=>exact⟨.same _,.none_none⟩
   |bl c'=>exact⟨.none_bool c',.none_bool c'⟩
   |int c' t'=>exact⟨.none_int c' t',.none_int c' t'⟩
   |str c' t'=>exact⟨.none_str c' t',.none_str c' t'⟩
   |tup h' q'=>exact⟨.none_tuple h' aP,.none_tuple h' aP⟩
   |lst h' q'=>exact⟨.none_list h' aP,.none_list h' aP⟩
   |fix h' q'=>exact⟨.none_list h' aP,.none_list h' aP⟩
  |bl c=>
   cases y with
   |non=>exact⟨.bool_none c,.bool_none c⟩
   |bl c'=>exact⟨.bool_bool c c',.bool_bool c c'⟩
   |int c' t'=>exact⟨.bool_int c c' t',.bool_int c c' t'⟩
   |str c' t'=>exact⟨.bool_str c c' t',.bool_str c c' t'⟩
   |tup h' q'=>exact⟨.bool_tuple c h' aP,.bool_tuple c h' aP⟩
   |lst h' q'=>exact⟨.bool_list c h' aP,.bool_list c h' aP⟩
   |fix h' q'=>exact⟨.bool_list c h' aP,.bool_list c h' aP⟩
  |int c t=>
   cases y with
   |non=>exact⟨.int_none c t,.int_none c t⟩
   |bl c'=>exact⟨.int_bool c t c',.int_bool c t c'⟩
   |int c' t'=>exact⟨.int_int c t c' t',.int_int c t c' t'⟩
   |str c' t'=>exact⟨.int_str c t c' t',.int_str c t c' t'⟩
   |tup h' q'=>exact⟨.int_tuple c t h' aP,.int_tuple c t h' aP⟩
   |lst h' q'=>exact⟨.int_list c t h' aP,.int_list c t h' aP⟩
   |fix h' q'=>exact⟨.int_list c t h' aP,.int_list c t h' aP⟩
  |str c t=>
   cases y with
   |non=>exact⟨.str_none c t,.str_none c t⟩
   |bl c'=>exact⟨.str_bool c t c',.str_bool c t c'⟩
   |int c' t'=>exact⟨.str_int c t c' t',.str_int c t c' t'⟩
   |str c' t'=>exact⟨.str_str c t c' t',.str_str c t c' t'⟩
   |tup h' q'=>exact⟨.str_tuple c t h' aP,.str_tuple c t h' aP⟩
   |lst h' q'=>exact⟨.str_list c t h' aP,.str_list c t h' aP⟩
   |fix h' q'=>exact⟨.str_list c t h' aP,.str_list c t h' aP⟩
 |succ n ih=>
  intro d1 d2 u1 u2 A hn x y hu;have aP:A.units<cLine:=by lia
  have el:∀{l:List D},deps l<=n->∀(j:Nat) d1 d2 u1 u2,l[j]?=some d1->Dv s.heap d1 u1->Dv s.heap d2 u2->SeqAt.EqAt A.in1 s u1 u2 (bO d1 d2):=λhl j d1 d2 u1 u2 e v1 v2=>
   (ih (i5 (oG e) hl) v1 v2 (by rw[in1_units];lia)).1
  cases x with
  |@tup l0 a0 us0 h q=>
   have hn':deps l0<=n:=BS hn;have x:=Dv.tup h q;cases y with
   |tup h' q'=>have r:=Ba h h' q q' aP (el hn');exact⟨iz x (.tup h' q') r,r⟩
   |lst h' q'=>exact⟨.tuple_list h h' aP,.tuple_list h h' aP⟩
   |fix h' q'=>exact⟨.tuple_list h h' aP,.tuple_list h h' aP⟩
   |non=>exact⟨.tuple_none h aP,.tuple_none h aP⟩
   |bl b=>exact⟨.tuple_bool b h aP,.tuple_bool b h aP⟩
   |int b t=>exact⟨.tuple_int b t h aP,.tuple_int b t h aP⟩
   |str b t=>exact⟨.tuple_str b t h aP,.tuple_str b t h aP⟩
  |@lst l0 a0 us0 h q=>
   have hn':deps l0<=n:=BS hn;have x:=Dv.lst h q;cases y with
   |tup h' q'=>exact⟨.list_tuple h h' aP,.list_tuple h h' aP⟩
   |lst h' q'=>have r:=j3 h h' q q' aP (el hn');exact⟨iz x (.lst h' q') r,r⟩
   |fix h' q'=>have r:=j3 h h' q q' aP (el hn');exact⟨iz x (.fix h' q') r,r⟩
   |non=>exact⟨.list_none h aP,.list_none h aP⟩
   |bl b=>exact⟨.list_bool b h aP,.list_bool b h aP⟩
   |int b t=>exact⟨.list_int b t h aP,.list_int b t h aP⟩
   |str b t=>exact⟨.list_str b t h aP,.list_str b t h aP⟩
  |@fix l0 a0 us0 h q=>
   have hn':deps l0<=n:=BS hn;have x:=Dv.fix h q;cases y with
   |tup h' q'=>exact⟨.list_tuple h h' aP,.list_tuple h h' aP⟩
   |lst h' q'=>have r:=j3 h h' q q' aP (el hn');exact⟨iz x (.lst h' q') r,r⟩
   |fix h' q'=>have r:=j3 h h' q q' aP (el hn');exact⟨iz x (.fix h' q') r,r⟩
   |non=>exact⟨.list_none h aP,.list_none h aP⟩
   |bl b=>exact⟨.list_bool b h aP,.list_bool b h aP⟩
   |int b t=>exact⟨.list_int b t h aP,.list_int b t h aP⟩
   |str b t=>exact⟨.list_str b t h aP,.list_str b t h aP⟩
  |non=>
   cases y with
   |non=>exact⟨.same _,.none_none⟩
   |bl c'=>exact⟨.none_bool c',.none_bool c'⟩
   |int c' t'=>exact⟨.none_int c' t',.none_int c' t'⟩
   |str c' t'=>exact⟨.none_str c' t',.none_str c' t'⟩
   |tup h' q'=>exact⟨.none_tuple h' aP,.none_tuple h' aP⟩
   |lst h' q'=>exact⟨.none_list h' aP,.none_list h' aP⟩
   |fix h' q'=>exact⟨.none_list h' aP,.none_list h' aP⟩
  |bl c=>
   cases y with
   |non=>exact⟨.bool_none c,.bool_none c⟩
   |bl c'=>exact⟨.bool_bool c c',.bool_bool c c'⟩
   |int c' t'=>exact⟨.bool_int c c' t',.bool_int c c' t'⟩
   |str c' t'=>exact⟨.bool_str c c' t',.bool_str c c' t'⟩
   |tup h' q'=>exact⟨.bool_tuple c h' aP,.bool_tuple c h' aP⟩
   |lst h' q'=>exact⟨.bool_list c h' aP,.bool_list c h' aP⟩
   |fix h' q'=>exact⟨.bool_list c h' aP,.bool_list c h' aP⟩
  |int c t=>
   cases y with
   |non=>exact⟨.int_none c t,.int_none c t⟩
   |bl c'=>exact⟨.int_bool c t c',.int_bool c t c'⟩
   |int c' t'=>exact⟨.int_int c t c' t',.int_int c t c' t'⟩
   |str c' t'=>exact⟨.int_str c t c' t',.int_str c t c' t'⟩
   |tup h' q'=>exact⟨.int_tuple c t h' aP,.int_tuple c t h' aP⟩
   |lst h' q'=>exact⟨.int_list c t h' aP,.int_list c t h' aP⟩
   |fix h' q'=>exact⟨.int_list c t h' aP,.int_list c t h' aP⟩
  |str c t=>
   cases y with
   |non=>exact⟨.str_none c t,.str_none c t⟩
   |bl c'=>exact⟨.str_bool c t c',.str_bool c t c'⟩
   |int c' t'=>exact⟨.str_int c t c' t',.str_int c t c' t'⟩
   |str c' t'=>exact⟨.str_str c t c' t',.str_str c t c' t'⟩
   |tup h' q'=>exact⟨.str_tuple c t h' aP,.str_tuple c t h' aP⟩
   |lst h' q'=>exact⟨.str_list c t h' aP,.str_list c t h' aP⟩
   |fix h' q'=>exact⟨.str_list c t h' aP,.str_list c t h' aP⟩
section
variable{K:Frag}
theorem Pk.int{i:Int}(h:Pk K M H (.int i) v):v=.int i:=by cases h with |of r=>cases r;rfl
theorem Pk.bl(h:Pk K M H (.bl i) v):v=.bl i:=by cases h with |of r=>cases r;rfl
theorem Pk.str(h:Pk K M H (.str i) v):v=.str i:=by cases h with |of r=>cases r;rfl
theorem Pk.non(h:Pk K M H .non v):v=.non:=by cases h with |of r=>cases r;rfl
theorem Pk.tup{l:List D}(h:Pk K M H (.tup l) v):∃a xs,v=.ref a/\TupAt K M H a xs/\aI K M H l xs:=by cases h with |of r=>cases r with |tup h1 h2=>exact⟨_,_,rfl,h1,h2⟩
theorem Pk.fix{l:List D}(h:Pk K M H (.fix l) v):∃a xs,v=.ref a/\mC K M H a xs/\aI K M H l xs:=by cases h with |of r=>cases r with |fix h1 h2=>exact⟨_,_,rfl,h1,h2⟩
end
section
theorem zb{f:Value->Value->Sem Value}{k:Int->Int->Int}{i j:Int}(h:mY X f (Jj λi j=>.int (k i j))):nh X z f (.int i) (.int j) (.dat (.int (k i j))):=
 ⟨_,h,λg σ As M H v1 v2 Q s p1 p2 kk=>⟨i,j,p1.int,p2.int,kk _ H As M s (aq.refl _ _) (.int _)⟩⟩
theorem sM{f:Value->Value->Sem Value}{C:Int->Int->Prop}{k:Int->Int->Int}{i j:Int}(h:mY X f (rI C λi j=>.int (k i j)))(hc:C i j):nh X z f (.int i) (.int j) (.dat (.int (k i j))):=
 ⟨_,h,λg σ As M H v1 v2 Q s p1 p2 kk=>⟨i,j,p1.int,p2.int,hc,kk _ H As M s (aq.refl _ _) (.int _)⟩⟩
theorem sN{f:Value->Value->Sem Value}{k:Int->Int->Bool}{i j:Int}(h:mY X f (Jj λi j=>.bl (k i j))):nh X z f (.int i) (.int j) (.dat (.bl (k i j))):=
 ⟨_,h,λg σ As M H v1 v2 Q s p1 p2 kk=>⟨i,j,p1.int,p2.int,kk _ H As M s (aq.refl _ _) (.bl _)⟩⟩
def QH(z:Z)(d1 d2:D)(b:Bool):R2:=λx y H Q=>(∃M,Pk z.K M H d1 x/\Pk z.K M H d2 y)/\Q (.bl b) H
theorem WX(hK:z.K=X.K)(p1:gZ d1=true)(p2:gZ d2=true)(hd:X.A.units+dep d1<cLine):nh X z (compareOp .Eq) d1 d2 (.dat (.bl (bO d1 d2))):=by
 refine⟨QH z d1 d2 (bO d1 d2),?_,λg σ As M H v1 v2 Q s q1 q2 kk=>⟨⟨M,q1,q2⟩,kk _ H As M s (aq.refl _ _) (.bl _)⟩⟩
 intro ah s σ H x y v u Q I rx ry h;obtain⟨⟨M,q1,q2⟩,q⟩:=h;rw[hK]at q1 q2;exact (En (dep d1) (dS _) (q1.dv I rx p1) (q2.dv I ry p2) hd).2 X.prog X.w X.xe _ ⟨.bl _,H,I,rfl,q⟩
section
theorem j4(hl:s.heap.IsList l us.toArray)(hb:s.heap.IsList b ws.toArray)(q:nF s.heap ls us)(q':nF s.heap ms ws)(hu:A.units<cLine)
  (he:∀(j:Nat) d1 d2 u1 u2,ls[j]?=some d1->Dv s.heap d1 u1->Dv s.heap d2 u2->SeqAt.EqAt A.in1 s u1 u2 (bO d1 d2)):SeqAt.RcNeAt A s (.ref l) (.ref b) (!dh ls ms):=by
 have h1:=q.length;have h2:=q'.length;by_cases h:ls.length=ms.length
 .
  rw[<- oE ls ms h];have e:us.toArray.size=ls.length:=by rw[dC,h1]
  rw[<- e];refine SeqAt.RcNeAt.lists hl hb (by rw[dC,dC];lia) hu λj g1 g2=>?_
  rw[dC]at g1 g2;obtain⟨d1,e1,v1⟩:=q.get (j:=j) (u:=us[j]) (by simp[g1])
  obtain⟨d2,e2,v2⟩:=q'.get (j:=j) (u:=ws[j]) (by simp[g2])
  have:=he j d1 d2 us[j] ws[j] e1 v1 v2;simpa [N6,e1,e2]using this
 . rw[oF ls ms h];refine SeqAt.RcNeAt.lists_lengths hl hb ?_ hu;rw[dC,dC];simp only[bne_iff_ne];lia
theorem Bb(hl:IsTup s.heap l us.toArray)(hb:IsTup s.heap b ws.toArray)(q:nF s.heap ls us)(q':nF s.heap ms ws)(hu:A.units<cLine)
  (he:∀(j:Nat) d1 d2 u1 u2,ls[j]?=some d1->Dv s.heap d1 u1->Dv s.heap d2 u2->SeqAt.EqAt A.in1 s u1 u2 (bO d1 d2)):SeqAt.RcNeAt A s (.ref l) (.ref b) (!dh ls ms):=by
 have h1:=q.length;have h2:=q'.length;have e:us.toArray.size=ls.length:=by rw[dC,h1]
 have e':ws.toArray.size=ms.length:=by rw[dC,h2]
 rw[<- uP,<- e,<- e'];refine SeqAt.RcNeAt.tuples hl hb hu λj g1 g2=>?_
 rw[dC]at g1 g2;obtain⟨d1,e1,v1⟩:=q.get (j:=j) (u:=us[j]) (by simp[g1])
 obtain⟨d2,e2,v2⟩:=q'.get (j:=j) (u:=ws[j]) (by simp[g2])
 have:=he j d1 d2 us[j] ws[j] e1 v1 v2;simpa [N6,e1,e2]using this
end
theorem WY(x:Dv s.heap d1 u1)(y:Dv s.heap d2 u2)(hu:A.units+dep d1<cLine):SeqAt.RcNeAt A s u1 u2 (!bO d1 d2):=by
 have aP:A.units<cLine:=by lia
 have el:∀{l:List D},deps l+1<=dep d1->∀(j:Nat) d1 d2 u1 u2,l[j]?=some d1->Dv s.heap d1 u1->Dv s.heap d2 u2->SeqAt.EqAt A.in1 s u1 u2 (bO d1 d2):=λhl j e1 e2 u1 u2 e v1 v2=>
  (En (dep e1) (dS _) v1 v2 (by rw[in1_units];have:=oG e;lia)).1
 cases x with
 |tup h q=>
  cases y with
  |tup h' q'=>exact Bb h h' q q' aP (el (by simp[dep]))
  |lst h' q'=>exact .tuple_list h h' aP
  |fix h' q'=>exact .tuple_list h h' aP
  |non=>exact .tuple_none h aP
  |bl b=>exact .tuple_bool b h aP
  |int b t=>exact .tuple_int b t h aP
  |str b t=>exact .tuple_str b t h aP
 |lst h q=>
  cases y with
  |tup h' q'=>exact .list_tuple h h' aP
  |lst h' q'=>exact j4 h h' q q' aP (el (by simp[dep]))
  |fix h' q'=>exact j4 h h' q q' aP (el (by simp[dep]))
  |non=>exact .list_none h aP
  |bl b=>exact .list_bool b h aP
  |int b t=>exact .list_int b t h aP
  |str b t=>exact .list_str b t h aP
 |fix h q=>
  cases y with
  |tup h' q'=>exact .list_tuple h h' aP
  |lst h' q'=>exact j4 h h' q q' aP (el (by simp[dep]))
  |fix h' q'=>exact j4 h h' q q' aP (el (by simp[dep]))
  |non=>exact .list_none h aP
  |bl b=>exact .list_bool b h aP
  |int b t=>exact .list_int b t h aP
  |str b t=>exact .list_str b t h aP
 |non=>
  cases y with
  |non=>exact .none_none
  |bl c'=>exact .none_bool c'
  |int c' t'=>exact .none_int c' t'
  |str c' t'=>exact .none_str c' t'
  |tup h' q'=>exact .none_tuple h' aP
  |lst h' q'=>exact .none_list h' aP
  |fix h' q'=>exact .none_list h' aP
 |bl c=>
  cases y with
  |non=>exact .bool_none c
  |bl c'=>exact .bool_bool c c'
  |int c' t'=>exact .bool_int c c' t'
  |str c' t'=>exact .bool_str c c' t'
  |tup h' q'=>exact .bool_tuple c h' aP
  |lst h' q'=>exact .bool_list c h' aP
  |fix h' q'=>exact .bool_list c h' aP
 |int c t=>
  cases y with
  |non=>exact .int_none c t
  |bl c'=>exact .int_bool c t c'
  |int c' t'=>exact .int_int c t c' t'
  |str c' t'=>exact .int_str c t c' t'
  |tup h' q'=>exact .int_tuple c t h' aP
  |lst h' q'=>exact .int_list c t h' aP
  |fix h' q'=>exact .int_list c t h' aP
 |str c t=>
  cases y with
  |non=>exact .str_none c t
  |bl c'=>exact .str_bool c t c'
  |int c' t'=>exact .str_int c t c' t'
  |str c' t'=>exact .str_str c t c' t'
  |tup h' q'=>exact .str_tuple c t h' aP
  |lst h' q'=>exact .str_list c t h' aP
  |fix h' q'=>exact .str_list c t h' aP
theorem W0(hK:z.K=X.K)(p1:gZ d1=true)(p2:gZ d2=true)(hd:X.A.units+dep d1<cLine):nh X z (compareOp .NotEq) d1 d2 (.dat (.bl (!bO d1 d2))):=by
 refine⟨QH z d1 d2 (!bO d1 d2),?_,λg σ As M H v1 v2 Q s q1 q2 kk=>⟨⟨M,q1,q2⟩,kk _ H As M s (aq.refl _ _) (.bl _)⟩⟩
 intro ah s σ H x y v u Q I rx ry h;obtain⟨⟨M,q1,q2⟩,q⟩:=h;rw[hK]at q1 q2;exact WY (q1.dv I rx p1) (q2.dv I ry p2) hd X.prog X.w X.xe _ ⟨.bl _,H,I,rfl,q⟩
theorem Eo(q:Dv h d u):∀d' x,Dv h d' u->bO d x=bO d' x:=by
 have two:∀{l l':List D} (x:D),(∀m,dh l m=dh l' m)->bO (.lst l) x=bO (.lst l') x/\bO (.fix l) x=bO (.lst l') x/\bO (.lst l) x=bO (.fix l') x/\bO (.fix l) x=bO (.fix l') x:=λx k=>by
  cases x with
  |lst m=>exact⟨k m,k m,k m,k m⟩
  |fix m=>exact⟨k m,k m,k m,k m⟩
  |_=>exact⟨rfl,rfl,rfl,rfl⟩
 refine Dv.rec (motive_1:=λd u _=>∀d' x,Dv h d' u->bO d x=bO d' x) (motive_2:=λl us _=>∀l' m,nF h l' us->dh l m=dh l' m) ?_ ?_ ?_ ?_ ?_ ?_ ?_ ?_ ?_ q
 . intro d' x q;cases q;rfl
 . intro b d' x q;cases q;rfl
 . intro i t d' x q;cases q;rfl
 . intro y t d' x q;cases q;rfl
 .
  intro l a us k _ ih d' x q;cases q with
  |tup y q'=>
   cases rq k y;cases x with
   |tup m=>exact ih _ m q'
   |_=>rfl
  |lst y _=>exact (dR k y).elim
  |fix y _=>exact (dR k y).elim
 .
  intro l a us k _ ih d' x q;cases q with
  |tup y _=>exact (dR y k).elim
  |lst y q'=>cases bQ k y;exact (two x λm=>ih _ m q').1
  |fix y q'=>cases bQ k y;exact (two x λm=>ih _ m q').2.2.1
 .
  intro l a us k _ ih d' x q;cases q with
  |tup y _=>exact (dR y k).elim
  |lst y q'=>cases bQ k y;exact (two x λm=>ih _ m q').2.1
  |fix y q'=>cases bQ k y;exact (two x λm=>ih _ m q').2.2.2
 . intro l' m q;cases q;rfl
 .
  intro d ds u us _ _ i1 i2 l' m q;cases q with
  |@cons d' l' _ _ b q'=>cases m with
   |nil=>rfl
   |cons y m=>show (bO d y&&dh ds m)=(bO d' y&&dh l' m);rw[i1 _ y b,i2 _ m q']
theorem J9(x:D)(q:Dv h d u)(q':Dv h d' u):bO d x=bO d' x:=Eo q d' x q'
open Classical in
def qm(h:Heap)(x:D)(u:Value):Bool:=decide (∃d,Dv h d u/\bO d x=true)
open Classical in
theorem Ep(q:Dv h d u):qm h x u=bO d x:=by
 unfold qm;cases e:bO d x with
 |true=>exact xI ⟨d,q,e⟩
 |false=>refine t7 ?_;rintro⟨d',q',e'⟩;rw[J9 x q' q,e]at e';cases e'
theorem iU(q:nF h l us):us.any (qm h x)=l.any λd=>bO d x:=by
 induction l generalizing us with
 |nil=>cases q;rfl
 |cons d l ih=>cases q with |cons a b=>rw[List.any_cons,List.any_cons,Ep a,ih b]
def W2(z:Z)(d1 d2:D)(b:Bool):R2:=QH z d1 d2 b
theorem kZ{A:Around}{s:Shared}{x:D}{u:Value}{l:List D}{us:List Value}(q:nF s.heap l us)(hx:Dv s.heap x u)(hu:A.units+deps l+1<cLine):∀y,y∈us.toArray->SeqAt.EqAt A.in1 s y u (qm s.heap x y):=by
 intro y hy;have hy':y∈us:=by simpa using hy
 obtain⟨j,hj⟩:=List.getElem?_of_mem hy';obtain⟨d,e,qd⟩:=q.get hj;rw[Ep qd];have:=oG e;exact (En (dep d) (dS _) qd hx (by rw[in1_units];lia)).1
noncomputable def cW:D->Option (List D)
 |.lst l=>some l
 |.tup l=>some l
 |.fix l=>some l
 |_=>none
theorem W3(hK:z.K=X.K)(hs:cW d2=some l)(p1:gZ d1=true)(p2:jc l=true)(hd:X.A.units+deps l+1<cLine):nh X z (compareOp .In) d1 d2 (.dat (.bl (l.any λd=>bO d d1))):=by
 refine⟨W2 z d1 d2 (l.any λd=>bO d d1),?_,λg σ As M H v1 v2 Q s q1 q2 kk=>⟨⟨M,q1,q2⟩,kk _ H As M s (aq.refl _ _) (.bl _)⟩⟩
 intro ah s σ H x y v u Q I rx ry h;obtain⟨⟨M,q1,q2⟩,q⟩:=h;rw[hK]at q1 q2;have hx:=q1.dv I rx p1;cases d2 with
 |lst m=>
  cases hs;obtain⟨a,xs,rfl,ha,rr⟩:=q2.list;cases ry;obtain⟨its,rv,pl,hz⟩:=I.list (bZ.of ha);have mj:=rr.dv I rv p2;refine SeqAt.in_listAt (qm s.heap d1) pl.isList (kZ mj hx hd) ⟨.bl _,H,I,rfl,?_⟩;rw[show its.toArray.any (qm s.heap d1)=its.any (qm s.heap d1)by simp,iU mj]
  exact q
 |fix m=>
  cases hs;obtain⟨a,xs,rfl,ha,rr⟩:=q2.fix;cases ry;obtain⟨its,rv,pl,hz⟩:=I.list ha.sq;have mj:=rr.dv I rv p2;refine SeqAt.in_listAt (qm s.heap d1) pl.isList (kZ mj hx hd) ⟨.bl _,H,I,rfl,?_⟩;rw[show its.toArray.any (qm s.heap d1)=its.any (qm s.heap d1)by simp,iU mj]
  exact q
 |tup m=>
  cases hs;obtain⟨a,xs,rfl,ha,rr⟩:=q2.tup;cases ry;obtain⟨its,rv,pl,hz⟩:=I.tuple ha.sq;have mj:=rr.dv I rv p2;refine SeqAt.in_tupleAt (qm s.heap d1) pl (kZ mj hx hd) ⟨.bl _,H,I,rfl,?_⟩;rw[show its.toArray.any (qm s.heap d1)=its.any (qm s.heap d1)by simp,iU mj]
  exact q
 |_=>cases hs
theorem Er(hK:z.K=X.K)(hs:cW d2=some l)(p1:gZ d1=true)(p2:jc l=true)(hd:X.A.units+deps l+1<cLine):nh X z (compareOp .NotIn) d1 d2 (.dat (.bl (!l.any λd=>bO d d1))):=by
 refine⟨W2 z d1 d2 (!l.any λd=>bO d d1),?_,λg σ As M H v1 v2 Q s q1 q2 kk=>⟨⟨M,q1,q2⟩,kk _ H As M s (aq.refl _ _) (.bl _)⟩⟩
 intro ah s σ H x y v u Q I rx ry h;obtain⟨⟨M,q1,q2⟩,q⟩:=h;rw[hK]at q1 q2;have hx:=q1.dv I rx p1;cases d2 with
 |lst m=>
  cases hs;obtain⟨a,xs,rfl,ha,rr⟩:=q2.list;cases ry;obtain⟨its,rv,pl,hz⟩:=I.list (bZ.of ha);have mj:=rr.dv I rv p2;refine SeqAt.notIn_listAt (qm s.heap d1) pl.isList (kZ mj hx hd) ⟨.bl _,H,I,rfl,?_⟩;rw[show its.toArray.any (qm s.heap d1)=its.any (qm s.heap d1)by simp,iU mj]
  exact q
 |fix m=>
  cases hs;obtain⟨a,xs,rfl,ha,rr⟩:=q2.fix;cases ry;obtain⟨its,rv,pl,hz⟩:=I.list ha.sq;have mj:=rr.dv I rv p2;refine SeqAt.notIn_listAt (qm s.heap d1) pl.isList (kZ mj hx hd) ⟨.bl _,H,I,rfl,?_⟩;rw[show its.toArray.any (qm s.heap d1)=its.any (qm s.heap d1)by simp,iU mj]
  exact q
 |tup m=>
  cases hs;obtain⟨a,xs,rfl,ha,rr⟩:=q2.tup;cases ry;obtain⟨its,rv,pl,hz⟩:=I.tuple ha.sq;have mj:=rr.dv I rv p2;refine SeqAt.notIn_tupleAt (qm s.heap d1) pl (kZ mj hx hd) ⟨.bl _,H,I,rfl,?_⟩;rw[show its.toArray.any (qm s.heap d1)=its.any (qm s.heap d1)by simp,iU mj]
  exact q
 |_=>cases hs
theorem QJ(h:l.length+m.length<=16777216):nh X z (binaryOp .Add) (.lst l) (.lst m) (.new (l++m)):=by
 refine⟨_,Qg,λg σ As M H v1 v2 Q s q1 q2 kk=>?_⟩
 obtain⟨a,xs,rfl,ha,ra⟩:=q1.list;obtain⟨b,ys,rfl,hb,rb⟩:=q2.list;refine⟨a,b,xs,ys,rfl,rfl,ha,hb,by rw[<- ra.length,<- rb.length];exact oB h,λp hp=>?_⟩
 exact kk _ _ As (p::M) (s.aQ hp) (aq.aQ hp) ⟨p,_,rfl,dA,λhA=>s.fresh hp (s.sub p hA),s.bW hp,aA,(ra.append rb).stay (aq.aQ hp)⟩
theorem QK(h1 : -(2 ^ 63)<=k)(h2:k<2 ^ 63)(h:l.length * k.toNat<=16777216):nh X z (binaryOp .Mult) (.lst l) (.int k) (.new (List.replicate k.toNat l).flatten):=by
 refine⟨_,Qh,λg σ As M H v1 v2 Q s q1 q2 kk=>?_⟩
 obtain⟨a,xs,rfl,ha,ra⟩:=q1.list;have rr:∀n,aI z.K M H (List.replicate n l).flatten (List.replicate n xs).flatten:=λn=>by
  induction n with
  |zero=>simp;exact .nil
  |succ n ih=>rw[oI,oI,x5,x5];exact ra.append ih
 refine⟨a,k,xs,rfl,q2.int,ha,h1,h2,by rw[<- ra.length];exact oB h,λp hp=>?_⟩
 exact kk _ _ As (p::M) (s.aQ hp) (aq.aQ hp) ⟨p,_,rfl,dA,λhA=>s.fresh hp (s.sub p hA),s.bW hp,aA,(rr _).stay (aq.aQ hp)⟩
def QL(K:Frag):R2:=λx y H Q=>∃a b xs ys,x=.ref a/\y=.ref b/\g7 K H a xs/\g7 K H b ys/\xs.length+ys.length<=sizeLine/\
 (xs=[]->Q (.ref b) H)/\(xs≠[]->ys=[]->Q (.ref a) H)/\(xs≠[]->ys≠[]->∀p,H p=none->Q (.ref p) (upd H p (.tup (xs++ys))))
theorem Es:mY X (binaryOp .Add) (QL X.K):=by
 intro ah s σ H x y v u Q I rx ry h;obtain⟨a,b,xs,ys,rfl,rfl,ha,hb,hz,q0,q1,q2⟩:=h;by_cases hx:xs=[]
 .
  subst hx;cases rx;cases ry;obtain⟨its,r1,p1,_⟩:=I.tuple ha;obtain⟨kM,r2,p2,_⟩:=I.tuple hb;cases r1;obtain⟨⟨cls,dd,data,sl⟩,ho,hc,n,hd⟩:=id p1;obtain⟨⟨Wv,dd2,data2,sl2⟩,ho2,hc2,n2,hd2⟩:=id p2;simp only at hc hd hc2 hd2;subst hc hd hc2 hd2;exact concat_meets ⟨_,ho,rfl⟩ ⟨_,ho2,rfl⟩ noFill_tuple_add seq_tuple_add BQ BE (A8 _ _)
   (tuple_addW0 a b #[] kM.toArray n n2 dd dd2 sl sl2 ⋯) ⟨ho,ho2,⟨.ref b,H,I,rfl,q0 rfl⟩⟩
 . exact JN ah s σ H (.ref a) (.ref b) v u Q I rx ry ⟨a,b,xs,ys,rfl,rfl,ha,hb,hx,hz,q1 hx,q2 hx⟩
theorem Ka(hK:z.K=X.K)(h:l.length+m.length<=16777216):nh X z (binaryOp .Add) (.tup l) (.tup m) (.dat (.tup (l++m))):=by
 refine⟨_,Es,λg σ As M H v1 v2 Q s q1 q2 kk=>?_⟩
 obtain⟨a,xs,rfl,ha,ra⟩:=q1.tup;obtain⟨b,ys,rfl,hb,rb⟩:=q2.tup;have la:=ra.length;have lb:=rb.length;refine⟨a,b,xs,ys,rfl,rfl,hK▸ha.sq,hK▸hb.sq,by rw[<- la,<- lb];exact oB h,λe=>?_,λe1 e2=>?_,λe1 e2 p hp=>?_⟩
 .
  subst e;cases l with
  |nil=>exact kk _ H As M s (aq.refl _ _) (.tup hb rb)
  |cons _ _=>simp at la
 .
  subst e2;cases m with
  |nil=>rw[mB]at kk;exact kk _ H As M s (aq.refl _ _) (.tup ha ra)
  |cons _ _=>simp at lb
 . exact kk _ _ As M (s.laid hp) (aq.laid hp) (.tup (.inl ⟨s.fresh hp,.inl aA⟩) ((ra.append rb).stay (aq.laid hp)))
theorem oH{K:Frag}{M:List Addr}{H:Hp}{l:List D}{xs:List V}{i:Int}{d:D}(r:aI K M H l xs)(h:fy l i=some d):∃v,fy xs i=some v/\Rep K M H d v:=by
 unfold fy at h ⊢
 rw[<- r.length];cases e:ql l.length i with
 |none=>rw[e]at h;cases h
 |some j=>rw[e]at h;have h':l[j]?=some d:=h;obtain⟨v,h1,h2⟩:=r.get h';exact⟨v,h1,h2⟩
theorem QM{l:List D}{i:Int}{d:D}(hK:z.K=X.K)(h:fy l i=some d):WQ X z (.lst l) (.int i) (.dat d):=by
 refine⟨_,sH,λg σ As M H v1 v2 Q s q1 q2 kk=>?_⟩
 obtain⟨a,xs,rfl,ha,ra⟩:=q1.list;obtain⟨v,e,r⟩:=oH ra h;exact⟨a,xs,i,v,rfl,q2.int,bZ.of ha,e,kk _ H As M s (aq.refl _ _) r⟩
theorem QS{l:List D}{i:Int}{d:D}(hK:z.K=X.K)(h:fy l i=some d):WQ X z (.fix l) (.int i) (.dat d):=by
 refine⟨_,sH,λg σ As M H v1 v2 Q s q1 q2 kk=>?_⟩
 obtain⟨a,xs,rfl,ha,ra⟩:=q1.fix;obtain⟨v,e,r⟩:=oH ra h;exact⟨a,xs,i,v,rfl,q2.int,hK▸ha.sq,e,kk _ H As M s (aq.refl _ _) r⟩
theorem Kc{l:List D}{i:Int}{d:D}(hK:z.K=X.K)(h:fy l i=some d):WQ X z (.tup l) (.int i) (.dat d):=by
 refine⟨_,Qa,λg σ As M H v1 v2 Q s q1 q2 kk=>?_⟩
 obtain⟨a,xs,rfl,ha,ra⟩:=q1.tup;obtain⟨v,e,r⟩:=oH ra h;exact⟨a,xs,i,v,rfl,q2.int,hK▸ha.sq,e,kk _ H As M s (aq.refl _ _) r⟩
noncomputable def cJ:List D->Option (List Int)
 | []=>some []
 |.int i::l=>match cJ l with |some ns=>some (i::ns) |none=>none
 |_::_=>none
theorem eF{K:Frag}{M:List Addr}{H:Hp}{l:List D}{xs:List V}{ns:List Int}(q:aI K M H l xs)(e:cJ l=some ns):xs=ns.map V.int:=by
 induction l generalizing xs ns with
 |nil=>cases q;cases e;rfl
 |cons d l ih=>cases q with |cons r q=>cases d with
  |int i=>
   have e:(match cJ l with |some ns=>some (i::ns) |none=>none)=some ns:=e
   cases e2:cJ l with
   |none=>rw[e2]at e;cases e
   |some ns=>rw[e2]at e;cases e;cases r;rw[List.map_cons,ih q e2]
  |_=>cases e
theorem QT{l m:List D}{ns ms:List Int}(hK:z.K=X.K)(hu:X.A.units<cLine)(h1:cJ l=some ns)(h2:cJ m=some ms):nh X z (compareOp .Lt) (.tup l) (.tup m) (.dat (.bl (HT.lexLt ns ms))):=by
 refine⟨_,P9 hu,λg σ As M H v1 v2 Q s q1 q2 kk=>?_⟩
 obtain⟨a,xs,rfl,ha,ra⟩:=q1.tup;obtain⟨b,ys,rfl,hb,rb⟩:=q2.tup;have e1:=eF ra h1;have e2:=eF rb h2;subst e1 e2;exact⟨a,b,ns,ms,rfl,rfl,hK▸ha.sq,hK▸hb.sq,kk _ H As M s (aq.refl _ _) (.bl _)⟩
theorem QV:UnD X z (unaryOp .USub) (.int i) (.dat (.int (-i))):=⟨_,P1,λg σ As M H v Q s p k=>⟨i,p.int,k _ H As M s (aq.refl _ _) (.int _)⟩⟩
end
section
theorem J7.one{K:Frag}{M:List Addr}{H:Hp}{d:D}{vs:List V}(h:J7 K M H [d] vs):∃v,vs=[v]/\Pk K M H d v:=by cases h with |cons p q=>cases q;exact⟨_,rfl,p⟩
theorem J7.two{K:Frag}{M:List Addr}{H:Hp}{d e:D}{vs:List V}(h:J7 K M H [d,e] vs):∃v w,vs=[v,w]/\Pk K M H d v/\Pk K M H e w:=by cases h with |cons p q=>cases q with |cons p' q'=>cases q';exact⟨_,_,rfl,p,p'⟩
noncomputable def W4:D->Option Nat
 |.lst l=>some l.length
 |.tup l=>some l.length
 |.fix l=>some l.length
 |_=>none
theorem QW{d:D}{n:Nat}(hK:z.K=X.K)(h:W4 d=some n):CallD X z (.builtin "len") [d] (.dat (.int n)):=by
 refine⟨_,DY,λg σ As M H vs Q s p k=>?_⟩
 obtain⟨v,rfl,pv⟩:=p.one;refine⟨v,n,rfl,?_,k _ H As M s (aq.refl _ _) (.int _)⟩;cases d with
 |lst l=>cases h;obtain⟨a,xs,rfl,ha,r⟩:=pv.list;exact .inl ⟨xs,bZ.of ha,r.length⟩
 |fix l=>cases h;obtain⟨a,xs,rfl,ha,r⟩:=pv.fix;exact .inl ⟨xs,hK▸ha.sq,r.length⟩
 |tup l=>cases h;obtain⟨a,xs,rfl,ha,r⟩:=pv.tup;exact .inr ⟨xs,hK▸ha.sq,r.length⟩
 |_=>cases h
theorem Kd{d:D}{l:List D}(hK:z.K=X.K)(h:cW d=some l):CallD X z (.type "list") [d] (.new l):=by
 refine⟨_,sJ,λg σ As M H vs Q s p k=>?_⟩
 obtain⟨v,rfl,pv⟩:=p.one;have fin:∀xs,aI z.K M H l xs->∀p,H p=none->Q (.ref p) (upd H p (.lst xs)):=λxs r p hp=>
  k _ _ As (p::M) (s.aQ hp) (aq.aQ hp) ⟨p,xs,rfl,dA,λhA=>s.fresh hp (s.sub p hA),s.bW hp,aA,r.stay (aq.aQ hp)⟩
 cases d with
 |lst m=>cases h;obtain⟨a,xs,rfl,ha,r⟩:=pv.list;exact⟨a,xs,rfl,.inl (bZ.of ha),fin xs r⟩
 |fix m=>cases h;obtain⟨a,xs,rfl,ha,r⟩:=pv.fix;exact⟨a,xs,rfl,.inl (hK▸ha.sq),fin xs r⟩
 |tup m=>cases h;obtain⟨a,xs,rfl,ha,r⟩:=pv.tup;exact⟨a,xs,rfl,.inr (hK▸ha.sq),fin xs r⟩
 |_=>cases h
theorem Et{d:D}{l:List D}(hK:z.K=X.K)(h:cW d=some l):CallD X z (.type "tuple") [d] (.dat (.tup l)):=by
 refine⟨_,qz,λg σ As M H vs Q s p k=>?_⟩
 obtain⟨v,rfl,pv⟩:=p.one;have fin:∀xs,aI z.K M H l xs->∀p,H p=none->Q (.ref p) (upd H p (.tup xs)):=λxs r p hp=>
  k _ _ As M (s.laid hp) (aq.laid hp) (.tup (.inl ⟨s.fresh hp,.inl aA⟩) (r.stay (aq.laid hp)))
 cases d with
 |lst m=>cases h;obtain⟨a,xs,rfl,ha,r⟩:=pv.list;exact⟨a,xs,rfl,.inl ⟨bZ.of ha,fin xs r⟩⟩
 |fix m=>cases h;obtain⟨a,xs,rfl,ha,r⟩:=pv.fix;exact⟨a,xs,rfl,.inl ⟨hK▸ha.sq,fin xs r⟩⟩
 |tup m=>cases h;obtain⟨a,xs,rfl,ha,r⟩:=pv.tup;exact⟨a,xs,rfl,.inr ⟨hK▸ha.sq,k _ H As M s (aq.refl _ _) (.tup ha r)⟩⟩
 |_=>cases h
theorem QX{i j:Int}(hc:X.calm=true):CallD X z (.builtin "max") [.int i,.int j] (.dat (.int (if j > i then j else i))):=by
 refine⟨_,Aj hc,λg σ As M H vs Q s p k=>?_⟩
 obtain⟨v,w,rfl,p1,p2⟩:=p.two;exact⟨i,j,by rw[p1.int,p2.int],k _ H As M s (aq.refl _ _) (.int _)⟩
theorem QZ{i j:Int}(hc:X.calm=true):CallD X z (.builtin "min") [.int i,.int j] (.dat (.int (if j<i then j else i))):=by
 refine⟨_,Ak hc,λg σ As M H vs Q s p k=>?_⟩
 obtain⟨v,w,rfl,p1,p2⟩:=p.two;exact⟨i,j,by rw[p1.int,p2.int],k _ H As M s (aq.refl _ _) (.int _)⟩
end
section
theorem oJ(hc:X.calm=true):fC X (.builtin "all") (λxs H Q=>∃(p:Addr) (bs:List Bool),xs=[.ref p]/\bZ X.K H p (bs.map V.bl)/\Q (.bl (bs.all id)) H):=by
 intro ah s σ H xs us Q I r h;obtain⟨p,bs,rfl,hp,q⟩:=h;obtain⟨u,rfl,rx⟩:=vals1 r;cases rx;obtain⟨its,rv,pl,hz⟩:=I.list hp;have qi:p<s⁻¹:=by obtain⟨_,e,_⟩:=pl.isList;exact eP e
 have aL:its.length=bs.length:=by rw[<- rv.length,fR]
 have up:∀b o,s.heap.get? b=some o->(s.heap.push { cls:=.type "list_iterator",data:=.fields #[.ref p,.int 0 0]}).get? b=some o:=λb o e=>bP _ e
 refine call_all_walk (wpAny_pyIter_list pl.isList ?_);refine⟨s⁻¹,_,_,_,_,_,λi=>bs.getD i true,rfl,Walks.list (A:=X.A.in1) (show X.A.in1.handled=none from I.ok.hd hc) s⁻¹ p (l4 qi) its.toArray,⟨⟨_,eJ _ rfl,rfl,rfl⟩,pl.isList.push _⟩,?_,λh' tk hk=>?_⟩
 .
  intro i v s' Q' E' hv hq;have hv':its[i]?=some v:=by simpa using hv
  have hi:i<bs.length:=by rw[<- aL];exact (b0.mp hv').1
  obtain⟨w,e1,e2⟩:=rv.get (i:=i) (x:=V.bl bs[i]) (by simp[hi])
  rw[hv']at e1;cases e1;cases e2;refine nS ?_;have:bs.getD i true=bs[i]:=by simp[List.getD,hi]
  rw[<- this];exact hq
 .
  have I1:L2.Inv X ah σ H { s with heap:=h',toks:=tk}:=I.kept λb o e=>hk b o (λhm=>by
   have:b=s⁻¹:=by simpa using hm
   exact absurd (eP e) (by rw[this];exact oD _)) (up b o e)
  refine⟨.bl (bs.all id),H,I1,?_,q⟩;have e:(List.range its.toArray.size).all (λi=>bs.getD i true)=bs.all id:=by
   rw[dC,aL];rw[BI];simp only[hZ,sT,id];constructor
   . intro h b hb;obtain⟨j,hj⟩:=List.getElem?_of_mem hb;have hj':=(b0.mp hj).1;have:=h j hj';simpa [List.getD,hj]using this
   . intro h i hi;have:=h bs[i] (List.getElem_mem hi);simpa [List.getD,hi]using this
  rw[e];rfl
noncomputable def uQ:List D->Option (List Bool)
 | []=>some []
 |.bl b::l=>match uQ l with |some bs=>some (b::bs) |none=>none
 |_::_=>none
theorem Eu{K:Frag}{M:List Addr}{H:Hp}{l:List D}{xs:List V}{ns:List Bool}(q:aI K M H l xs)(e:uQ l=some ns):xs=ns.map V.bl:=by
 induction l generalizing xs ns with
 |nil=>cases q;cases e;rfl
 |cons d l ih=>cases q with |cons r q=>cases d with
  |bl i=>
   have e:(match uQ l with |some ns=>some (i::ns) |none=>none)=some ns:=e
   cases e2:uQ l with
   |none=>rw[e2]at e;cases e
   |some ns=>rw[e2]at e;cases e;cases r;rw[List.map_cons,ih q e2]
  |_=>cases e
theorem Q5{l:List D}{bs:List Bool}(hc:X.calm=true)(h:uQ l=some bs):CallD X z (.builtin "all") [.lst l] (.dat (.bl (bs.all id))):=by
 refine⟨_,oJ hc,λg σ As M H vs Q s p k=>?_⟩
 obtain⟨v,rfl,pv⟩:=p.one;obtain⟨a,xs,rfl,ha,r⟩:=pv.list;have e:=Eu r h;subst e;exact⟨a,bs,rfl,bZ.of ha,k _ H As M s (aq.refl _ _) (.bl _)⟩
end
noncomputable def qB:D->String
 |.non=> "NoneType" |.bl _=> "bool" |.int _=> "int" |.str _=> "str" |.tup _=> "tuple" |.lst _=> "list" |.fix _=> "list" |.emp=> "dict" |.mz _=> ""
def Dp:D->Value
 |.mz C=>.ref C
 |d=>.type (qB d)
theorem Bc{M:Model}{A:Around}{E:Value->Shared->Prop}{K:Frag}{x C:Addr}{ox:Obj}{nv:Value}{Q:Unit->Shared->Prop}{s:Shared}(X:K.In s.heap)(I:PySem.W.InstAt s.heap x ox C none)(hb:PySem.W.mroIn K C (.type "BaseException")=some true)(hq:Q () s) :
  wpAny M A (checkBuiltinCall "BaseException.__getattribute__" ⟨[.ref x,nv],[]⟩) Q E s:=by
 have kd:builtinKind "BaseException.__getattribute__"=some .slot:=by decide +kernel
 have sd:splitId "BaseException.__getattribute__"=some ("BaseException", "__getattribute__"):=by decide +kernel
 have ha:=F.args_bexc_ga (.ref x) nv;obtain⟨hv,ge,dr,tk,o'⟩:=s;have l0:=I.type (M:=M);have l1:=PySem.W.looks_mroIn (M:=M) X hb;simp only[checkBuiltinCall,kd,sd];unfold isInstance;refine aS (aS (l0.at (l1.at ?_)))
 repeat (any_goals (first |assumption |wp_step))
theorem Ew{prog:Program}{w:World}{A:Around}{E:Value->Shared->Prop}{K:Frag}{x C:Addr}{ox:Obj}{name:Str}{g a:Value}{Q:Option Value->Shared->Prop}{s:Shared}(X:K.In s.heap)(I:PySem.W.InstAt s.heap x ox C none)
  (hga:PySem.W.findIn K (.ref C) "__getattribute__"=some (some (.builtin "BaseException.__getattribute__"))) (hk:PySem.W.findIn K (.ref C) "__getattr__"=some none) (hb:PySem.W.mroIn K C (.type "BaseException")=some true) (hf:PySem.W.findObj K C none name=some (.bind g a))
  (h:wpAny (model prog w) A.in1 (call g [a,.ref x,.ref C]) (λv s'=>wpAny (model prog w) A (handedOut v) (λv s''=>Q (some v) s'') (λ_ _=>False) s') (λ_ _=>False) { s with toks:=s.toks+1}) :
  wpAny (model prog w) A (getAttr? (.ref x) name) Q E s:=by
 obtain⟨hv,ge,dr,tk,o'⟩:=s;have l0:=I.type (M:=model prog w);have l1:=PySem.W.looks_findIn (M:=model prog w) X hga;have l2:=PySem.W.looks_findIn (M:=model prog w) X hk;have l3:=PySem.W.looks_find (M:=model prog w) X I hf;have f3:=F.excAttr_ValueError.ga.bind (.ref x);unfold getAttr? getAttrBy? getAttrBy;refine aS (wpAny_mkText (aS (wpAny_attempt (mM (aS (l0.at (aS (l1.at ?_))))))));show wpAny _ _ (getAttrByItsOwn _ _ _ _ _ _) _ _ _;unfold getAttrByItsOwn;refine aS (l2.at (aS (wpAny_attempt (mM ?_))));show wpAny _ _ (boundAndCalled _ _ _) _ _ _;unfold boundAndCalled;rw[f3];refine aS (dE (CM (codeAny_call_builtin F.excAttr_ValueError.ga.plain F.entry_bexc_ga (Bc X I hb ?_))));refine aS (dE (aS (dE (aS (l0.at (aS (l3.at ?_)))))));show wpAny _ _ (Builtin.ObjectAttr.bindTo _ _ _ _) _ _ _;show wpAny _ _ (holding [a] (call g [a,.ref x,.ref C]) >>= ret) _ _ _;refine aS (mM (l5 h (λv s' z=>dE ?_) λ_ _ z=>z.elim))
 exact l5 z (λv s'' hv=>dE hv) (λ_ _ z=>z.elim)
theorem lg{K:Frag}{C:Addr}(k:Jl K C):∃c d cd sl,K.lookup C=some ⟨c,d,.cls cd,sl⟩/\PySem.W.clsIn K C=some cd:=by
 obtain⟨cd,hc,_⟩:=PySem.W.any_some k.dct;have hc':=hc;unfold PySem.W.clsIn at hc;split at hc
 . rename_i c d cd' sl ho;cases hc;exact⟨c,d,cd,sl,ho,hc'⟩
 . cases hc
theorem uR{K:Frag}{x C:Addr}(k:Jl K C):PySem.W.KitX K (.ref x) (.ref C) (λh=>∃ox,PySem.W.InstAt h x ox C none) where
 ty:=λ_ _ _ ⟨_,I⟩=>I.type
 it:=λ_ _ X _=>by
  obtain⟨c,d,cd,sl,ho,_⟩:=lg k;intro A' Q' E' s' kp q;unfold isType loadHead;refine aS ?_;refine wpAny_loadPart (kp _ _ (X _ _ ho)) ?_;exact dE q
 ne:=λh tp dd its n sl X htp=>by
  obtain⟨c,d,cd,Zh,ho,_⟩:=lg k;cases q:(Value.ref C==Value.ref tp)with
  |false=>rfl
  |true=>have e:C=tp:=Value.ref.inj (beq_iff_eq.mp q);subst e;have y:=(X _ _ ho).symm.trans htp;cases y
 ca:=λ{prog w A E Q s} X ⟨ox,I⟩ h=>by
  obtain⟨_,_,cd,_,_,hc⟩:=lg k;have hf:PySem.W.findObj K C none "__class__"=some (.bind (.builtin "getset_descriptor.__get__") (.builtin "object.__class__")):=by unfold PySem.W.findObj;rw[hc,Option.bind_some,k.cls,Option.bind_some];simp[k.spc,k.tks]
  refine Ew X I k.gga k.gat k.bas hf (CM ?_);exact PySem.W.class_get (s:={ s with toks:=s.toks+1}) (ox:=ox) (od:=none) X I k.mro (PySem.W.handed_on rfl h)
section
theorem Ey(I:L2.Inv X ah σ H s)(p:Pk X.K M H d v)(r:RelV v u)
  (e:PySem.W.kitOne X.K (Dp d) c=some b) (h:∀tk,Q (.bool b) { s with toks:=tk}):wpAny (model X.prog X.w) A (call (.builtin "isinstance") [u,c]) Q E s:=by
 cases d with
 |non=>have q:=p.non;subst q;cases r;exact t9 PySem.W.kitx_none I.nB True.intro e (λz=>nomatch z) h
 |bl y=>have q:=p.bl;subst q;cases r;exact t9 PySem.W.kitx_bool I.nB True.intro e (λz=>nomatch z) h
 |int i=>have q:=p.int;subst q;obtain⟨t,rfl⟩:=r;exact t9 PySem.W.kitx_int I.nB True.intro e (λz=>nomatch z) h
 |str y=>have q:=p.str;subst q;obtain⟨t,rfl⟩:=r;exact t9 PySem.W.kitx_str I.nB True.intro e (λz=>nomatch z) h
 |tup l=>obtain⟨a,xs,rfl,ha,_⟩:=p.tup;cases r;obtain⟨its,_,⟨o,h1,h2,_⟩,_⟩:=I.tuple ha.sq;exact t9 PySem.W.kitx_tuple I.nB ⟨o,h1,h2⟩ e (λz=>nomatch z) h
 |lst l=>obtain⟨a,xs,rfl,ha,_⟩:=p.list;cases r;obtain⟨its,_,pl,_⟩:=I.list (bZ.of ha);obtain⟨o,h1,h2,_⟩:=pl.isList;exact t9 BU I.nB ⟨o,h1,h2⟩ e (λz=>nomatch z) h
 |fix l=>obtain⟨a,xs,rfl,ha,_⟩:=p.fix;cases r;obtain⟨its,_,pl,_⟩:=I.list ha.sq;obtain⟨o,h1,h2,_⟩:=pl.isList;exact t9 BU I.nB ⟨o,h1,h2⟩ e (λz=>nomatch z) h
 |emp=>
  cases p with
  |of q=>
   cases q with
   |emp _ ha=>cases r;obtain⟨_,_,vs,_,o,es,ep,h1,h2,_⟩:=I.hok _ _ ha;exact t9 PySem.W.kitx_dict I.nB ⟨o,h1,h2.1⟩ e (λz=>nomatch z) h
 |mz C=>
  cases p with
  |of q=>
   cases q with
   |mz k _ ha=>cases r;obtain⟨⟨o,h1,h2,h3,h4⟩,_⟩:=I.hok _ _ ha;exact t9 (uR k) I.nB ⟨o,h1,h2,h3,by rw[h4];trivial⟩ e (λz=>nomatch z) h
theorem Ez:fC X (.builtin "isinstance") (λxs H Q=>∃x n M d b,xs=[x,.ty n]/\Pk X.K M H d x/\PySem.W.kitOne X.K (Dp d) (.type n)=some b/\Q (.bl b) H):=by intro ah s σ H xs us Q I r h;obtain⟨x,n,M,d,b,rfl,p,e,q⟩:=h;obtain⟨u,w',rfl,r1,r2⟩:=vals2 r;cases r2;exact Ey I p r1 e λtk=>⟨.bl b,H,I.tok tk,rfl,q⟩
theorem Q6(hK:z.K=X.K)(h:aD X z a g r1 g1)(hp:pk r1 g1=some d)(he:∀M H v,Pk X.K M H d v->PySem.W.kitOne X.K (Dp d) (.type n)=some b)
  (hg:Gl X "isinstance") (hm:X.mg "isinstance"=none) (hv:bootBuiltins "isinstance"=some (.builtin "isinstance")) (gT:Gl X T) (mT:X.mg T=none) (vT:bootBuiltins T=some (.type n)) (nT:T≠ "__name__") (dT:(T==("__debug__":Str))=false)
  (hs:starEach [a,.Name T pT] X.env=(false,eval a X.env)::starEach [.Name T pT] X.env):aD X z (.Call (.Name "isinstance" p) [a,.Name T pT] [] pos) g (.dat (.bl b)) g1:=by
 obtain⟨t,q,k⟩:=h;have pT':PE X (.Name T pT) (tC (.ty n)):=sf gT mT vT rfl nT dT;refine⟨_,jV Ez hg hm hv (bC q (bC pT' dW) hs) ⋯ ⋯ hs,λσ As M H Q s kk=>k σ As M H _ s λv H' aC M' s' st R=>?_⟩
 have p:=hK▸s'.pk (aq.refl _ _) R hp;exact⟨v,n,M',d,b,rfl,p,he _ _ _ p,kk _ H' aC M' s' st (.bl b)⟩
end
inductive Fl where
 |nx |rt (r:R) |bk |ct
def j5(z:Z)(M:List Addr)(H:Hp)(E:Ends)(g':G):Fl->Prop
 |.nx=>∀σ' aC M' H',S z g' σ' aC M' H'->aq M H M' H'->E.nx σ' H'
 |.bk=>∀σ' aC M' H',S z g' σ' aC M' H'->aq M H M' H'->E.bk σ' H'
 |.ct=>∀σ' aC M' H',S z g' σ' aC M' H'->aq M H M' H'->E.ct σ' H'
 |.rt r=>∀v σ' aC M' H',S z g' σ' aC M' H'->aq M H M' H'->cN z g' σ' aC M' H' r v->E.rt v H'
def fW(X:Cx)(z:Z)(st:Stmt)(g:G)(f:Fl)(g':G):Prop:=
 ∃t,PS X st t/\∀σ As M H E,S z g σ As M H->j5 z M H E g' f->t E σ H
def dY(X:Cx)(z:Z)(jP:List Stmt)(g:G)(f:Fl)(g':G):Prop:=
 ∃t,se X jP t/\∀σ As M H E,S z g σ As M H->j5 z M H E g' f->t E σ H
section
variable{st:Stmt}
theorem j5.trans(st:aq M H M1 H1)(h:j5 z M H E g' f):j5 z M1 H1 E g' f:=by
 cases f with
 |nx=>exact λσ' aC M' H' s' st'=>h σ' aC M' H' s' (st.trans st')
 |bk=>exact λσ' aC M' H' s' st'=>h σ' aC M' H' s' (st.trans st')
 |ct=>exact λσ' aC M' H' s' st'=>h σ' aC M' H' s' (st.trans st')
 |rt r=>exact λv σ' aC M' H' s' st' R=>h v σ' aC M' H' s' (st.trans st') R
theorem EY:dY X z [] g .nx g:=⟨_,JB,λσ As M H E s k=>k σ As M H s (aq.refl _ _)⟩
theorem Ke(h1:fW X z st g .nx g1)(h2:dY X z jP g1 f g2):dY X z (st::jP) g f g2:=by obtain⟨t1,q1,k1⟩:=h1;obtain⟨t2,q2,k2⟩:=h2;exact⟨_,dQ q1 q2,λσ As M H E s k=>k1 σ As M H _ s λσ' aC M' H' s' st'=>k2 σ' aC M' H' E s' (k.trans st')⟩
theorem Q7(h1:fW X z st g (.rt r) g1):dY X z (st::jP) g (.rt r) g1:=by obtain⟨t1,q1,k1⟩:=h1;exact⟨_,dQ q1 bu,λσ As M H E s k=>k1 σ As M H _ s k⟩
theorem Q8(h1:fW X z st g .bk g1):dY X z (st::jP) g .bk g1:=by obtain⟨t1,q1,k1⟩:=h1;exact⟨_,dQ q1 bu,λσ As M H E s k=>k1 σ As M H _ s k⟩
theorem Q9(h1:fW X z st g .ct g1):dY X z (st::jP) g .ct g1:=by obtain⟨t1,q1,k1⟩:=h1;exact⟨_,dQ q1 bu,λσ As M H E s k=>k1 σ As M H _ s k⟩
theorem Ra(h:aD X z e g r g1):fW X z (.Return (some e) pos) g (.rt r) g1:=by obtain⟨t,q,k⟩:=h;exact⟨_,sr q,λσ As M H E s kk=>k σ As M H _ s λv H' aC M' s' st R=>kk v σ aC M' H' s' st R⟩
theorem Kf(h:aD X z e g r g1)(hs:swapsWith e none pos.line X.env=pure false):fW X z (.Expr e pos) g .nx g1:=by obtain⟨t,q,k⟩:=h;exact⟨_,nD q hs,λσ As M H E s kk=>k σ As M H _ s λv H' aC M' s' st R=>kk σ aC M' H' s' st⟩
theorem N7(h:cg X z c g v g1)(h2:dY X z (if v then a else b) g1 f g2):fW X z (.If c a b pos) g f g2:=by
 obtain⟨t,q,k⟩:=h;obtain⟨t2,q2,k2⟩:=h2;cases v with
 |true=>exact⟨_,nX q q2 bu,λσ As M H E s kk=>k σ As M H _ s λH' aC M' s' st=>jw (k2 σ aC M' H' E s' (kk.trans st))⟩
 |false=>exact⟨_,nX q bu q2,λσ As M H E s kk=>k σ As M H _ s λH' aC M' s' st=>ng (k2 σ aC M' H' E s' (kk.trans st))⟩
theorem Kg(hN:X.N.Nodup)(hi:X.N[i]?=some x)(hx:Loc X.env.scope x)(h:aD X z e g (.dat d) g1)(hs:swapsWith e (some (.Name x pos')) pos.line X.env=pure false)(hf:X.fn x=true\/X.env.scope.names.lookup x=some .local)(hb:i∉z.bor) :
  fW X z (.Assign [.Name x pos'] e pos) g .nx (g1.set i (.dat d)):=by
 obtain⟨t,q,k⟩:=h;refine⟨_,nY hN hi hx q hs hf,λσ As M H E s kk=>k σ As M H _ s λv H' aC M' s' st R=>?_⟩
 obtain⟨bw,s2⟩:=s'.jx (i:=i) hb R;exact kk _ bw M' H' s2 st
theorem Kh(hN:X.N.Nodup)(hi:X.N[i]?=some x)(hx:Loc X.env.scope x)(h:aD X z e g (.new l) g1)(hl:i<g1.length)(hs:swapsWith e (some (.Name x pos')) pos.line X.env=pure false)(hf:X.fn x=true\/X.env.scope.names.lookup x=some .local)(hb:i∉z.bor) :
  fW X z (.Assign [.Name x pos'] e pos) g .nx (g1.set i (.own l)):=by
 obtain⟨t,q,k⟩:=h;refine⟨_,nY hN hi hx q hs hf,λσ As M H E s kk=>k σ As M H _ s λv H' aC M' s' st R=>?_⟩
 obtain⟨a,xs,rfl,hm,hA,h0,ha,rr⟩:=R;obtain⟨bw,s2⟩:=s'.oz hb hl hm hA h0 ha rr;exact kk _ bw M' H' s2 st
end
def tAny(X:Cx)(jP:List Stmt):TS:=λE σ H=>∃t,se X jP t/\t E σ H
theorem zc{X:Cx}{jP:List Stmt}:se X jP (tAny X jP):=λah s σ H E I h=>let ⟨t,q,k⟩:=h;q ah s σ H E I k
section
theorem drop_cons{α:Type}{l:List α}{n:Nat}{a:α}(h:l[n]?=some a):l.drop n=a::l.drop (n+1):=by obtain⟨h1,h2⟩:=b0.mp h;rw[List.drop_eq_getElem_cons h1,h2]
end
noncomputable def cL(lo:Int)(n:Nat):List D:=(List.range n).map λ(k:Nat)=>D.int (lo+(k:Int))
section
theorem Fb{lo:Int}{n k:Nat}(h:k<n):(cL lo n)[k]?=some (.int (lo+(k:Int))):=by unfold cL;rw[oP,Co h];rfl
theorem uS{lo:Int}{n:Nat}:(cL lo n).length=n:=by unfold cL;simp
theorem Bd(h:cO X z [a] g [.dat (.int j)] g1)(hg:Gl X "range")(hm:X.mg "range"=none)(hs:starEach [a] X.env=[(false,eval a X.env)])(h1 : -(2 ^ 62)<=j)(h2:j<2 ^ 62) :
  ∃wi,PI X tg (.Call (.Name "range" p) [a] [] rp) wi/\∀σ As M H (Q:It->Hp->Prop),S z g σ As M H->(∀H' aC M',S z g1 σ aC M' H'->aq M H M' H'->Q (PB 0 j.toNat) H')->wi σ H Q:=by
 obtain⟨t,q,k⟩:=h;refine⟨_,qU hg hm q hs,λσ As M H Q s kk=>k σ As M H _ s λvs H' aC M' s' st R=>?_⟩
 cases R with
 |dat r R=>cases R;cases r;exact⟨j,rfl,h1,h2,kk H' aC M' s' st⟩
theorem Be(h:cO X z [a,b] g [.dat (.int c),.dat (.int j)] g1)(hg:Gl X "range")(hm:X.mg "range"=none)(hs:starEach [a,b] X.env=[(false,eval a X.env),(false,eval b X.env)])(hs2:starEach [b] X.env=[(false,eval b X.env)])
  (h1 : -(2 ^ 62)<=c/\c<2 ^ 62/\-(2 ^ 62)<=j/\j<2 ^ 62) {tg:Expr} :
  ∃wi,PI X tg (.Call (.Name "range" p) [a,b] [] rp) wi/\∀σ As M H (Q:It->Hp->Prop),S z g σ As M H->(∀H' aC M',S z g1 σ aC M' H'->aq M H M' H'->Q (PB c (j - c).toNat) H')->wi σ H Q:=by
 obtain⟨t,q,k⟩:=h;refine⟨_,Ah hg hm q hs hs2,λσ As M H Q s kk=>k σ As M H _ s λvs H' aC M' s' st R=>?_⟩
 cases R with
 |dat r R=>cases R with |dat r2 R=>cases R;cases r;cases r2;exact⟨c,j,rfl,h1,kk H' aC M' s' st⟩
end
section
theorem Bf(hN:X.N[i]?=some x)(hv:gR X.env.scope x)(hd:(x==("__debug__":Str))=false)(bE:(x==("__classdict__":Str))=false)(hg:g[i]?=some (.own l0))(h:cO X z [e] g [.dat d] g1)(xu:g1[i]?=some (.own l))(hl:l.length<16777216)
  (hbase:attributeBase (.Name x pn) "append" X.env (eval (.Name x pn) X.env)=eval (.Name x pn) X.env)
  (hfew:((backTo aR (starEach [e] X.env)).all (λx=>!x.1)&&(backToKw aR (keywordEach [] X.env)).all (λx=>x.1.isSome)
   && decide ([e].length+([]:List Keyword).length+(if ([]:List Keyword).isEmpty then 0 else 1)<30))=true)
  (hline:(bG.endLine==aR.line)=true) (hs:starEach [e] X.env=(false,eval e X.env)::starEach [] X.env):aD X z (.Call (.Attribute (.Name x pn) "append" bG) [e] [] aR) g (.dat .non) (g1.set i (.own (l++[d]))):=by
 obtain⟨t,q,k⟩:=h;refine⟨_,uL wT A9 Bi iR (bM hN hv hd bE) q hbase hfew hline hs rfl,λσ As M H Q s kk=>?_⟩
 obtain⟨a,xs,e1,e2,e3,e4⟩:=s.sl.at hg;refine⟨.ref a,e1,.inl ⟨rfl,xs,bZ.of e3⟩,k σ As M H _ s λvs H' aC M' s' st R=>?_⟩
 obtain⟨b,ys,f1,f2,f3,f4⟩:=s'.sl.at xu;rw[e1]at f1;injection f1 with f1;injection f1 with f1;injection f1 with f1;subst f1;cases R with
 |dat r R=>
  cases R;refine⟨a,ys,_,rfl,rfl,f3,by rw[<- f4.length,nK];exact hl,?_⟩
  obtain⟨s2,aK⟩:=s'.write xu e1 (f4.append (.cons r .nil));exact kk _ _ aC M' s2 (st.trans aK) .non
end
section
theorem Kl(hN:X.N[i]?=some x)(hv:gR X.env.scope x)(hd:(x==("__debug__":Str))=false)(bE:(x==("__classdict__":Str))=false)(h:aD X z e g (.dat d) g1)(xu:g1[i]?=some (.own l0))(h2:aD X z ix g1 (.dat (.int k)) g2)(W5:g2[i]?=some (.own l))(hj:ql l.length k=some j)
  (ha:∀v,assign (.Subscript (.Name x pn) ix bJ) X.env v=(do
   let ov <- holding [v] (eval (.Name x pn) X.env)
   let iv <- holding [v,ov] (eval ix X.env)
   standAt bJ
   holding [v,ov,iv] (setItem ov iv v)
   release [v,ov,iv] []))
  (hs:swapsWithSole [.Subscript (.Name x pn) ix bJ] e pos.line X.env=pure false) (hw:swappedStores [.Subscript (.Name x pn) ix bJ] e X.env=pure none)
  (h1:(assignEach [.Subscript (.Name x pn) ix bJ] X.env).map (·.2)=[assign (.Subscript (.Name x pn) ix bJ) X.env]) :
  fW X z (.Assign [.Subscript (.Name x pn) ix bJ] e pos) g .nx (g2.set i (.own (l.set j d))):=by
 obtain⟨t,q,kk⟩:=h;obtain⟨t2,q2,k2⟩:=h2;refine⟨_,wM q (wL (bM hN hv hd bE) q2 set_list ha) hs hw h1,λσ As M H E s kE=>kk σ As M H _ s λv H1 aO M1 s1 cI R1=>?_⟩
 obtain⟨a,xs,e1,e2,e3,e4⟩:=s1.sl.at xu;refine⟨.ref a,e1,k2 σ aO M1 H1 _ s1 λw H2 bw M2 s2 aK R2=>?_⟩
 obtain⟨b,ys,f1,f2,f3,f4⟩:=s2.sl.at W5;rw[e1]at f1;injection f1 with f1;injection f1 with f1;injection f1 with f1;subst f1;have R2':Rep z.K M2 H2 (.int k) w:=R2;cases R2';refine⟨a,ys,k,j,rfl,rfl,f3,by rw[<- f4.length];exact hj,?_⟩
 obtain⟨s3,dU⟩:=s2.write W5 e1 (aI.set (Rep.stay aK R1) j f4);exact kE σ bw M2 _ s3 (cI.trans (aK.trans dU))
theorem aI.eraseIdx{K:Frag}{M:List Addr}{H:Hp}:∀{ds:List D}{vs:List V} (n:Nat),aI K M H ds vs->aI K M H (ds.eraseIdx n) (vs.eraseIdx n)
 |_,_,_,.nil=>.nil
 |_,_,0,.cons _ t=>t
 |_,_,n+1,.cons r t=>.cons r (aI.eraseIdx n t)
theorem Fc(hN:X.N[i]?=some x)(hv:gR X.env.scope x)(hd:(x==("__debug__":Str))=false)(bE:(x==("__classdict__":Str))=false)(hg:g[i]?=some (.own l0))(h:cO X z [e] g [.dat (.int k)] g1)(xu:g1[i]?=some (.own l))(hk:ql l.length k=some j)(hy:l[j]?=some d)(hl:l.length<16777216)
  (hbase:attributeBase (.Name x pn) "pop" X.env (eval (.Name x pn) X.env)=eval (.Name x pn) X.env)
  (hfew:((backTo aR (starEach [e] X.env)).all (λx=>!x.1)&&(backToKw aR (keywordEach [] X.env)).all (λx=>x.1.isSome)
   && decide ([e].length+([]:List Keyword).length+(if ([]:List Keyword).isEmpty then 0 else 1)<30))=true)
  (hline:(bG.endLine==aR.line)=true) (hs:starEach [e] X.env=(false,eval e X.env)::starEach [] X.env):aD X z (.Call (.Attribute (.Name x pn) "pop" bG) [e] [] aR) g (.dat d) (g1.set i (.own (l.eraseIdx j))):=by
 obtain⟨t,q,k0⟩:=h;refine⟨_,uL wT PySem.F.slot_list_pop PySem.F.type_list_pop Eh (bM hN hv hd bE) q hbase hfew hline hs rfl,λσ As M H Q s kk=>?_⟩
 obtain⟨a,xs,e1,e2,e3,e4⟩:=s.sl.at hg;refine⟨.ref a,e1,.inl ⟨rfl,xs,bZ.of e3⟩,k0 σ As M H _ s λvs H' aC M' s' st R=>?_⟩
 obtain⟨b,ys,f1,f2,f3,f4⟩:=s'.sl.at xu;rw[e1]at f1;injection f1 with f1;injection f1 with f1;injection f1 with f1;subst f1;cases R with
 |dat r R=>
  cases R;cases r;obtain⟨h1,h2,h3,h4⟩:=sF hk;obtain⟨v,g1',Rb⟩:=f4.get hy;obtain⟨s2,aK⟩:=s'.write xu e1 (aI.eraseIdx j f4);refine⟨a,ys,k,j,v,rfl,rfl,f3,by lia,by lia,by rw[<- f4.length];exact h1,g1',?_⟩
  exact kk _ _ aC M' s2 (st.trans aK) (Rb.stay aK)
end
noncomputable def cu:List R->G->Option G
 | [],_=>some []
 |.dat d::rs,g=>match cu rs g with |some gs=>some (.dat d::gs) |none=>none
 |.var i::rs,g=>match g[i]? with
  |some (.own l)=>match cu rs g with |some gs=>some (.own l::gs) |none=>none
  |_=>none
 |.new _::_,_=>none
noncomputable def vars:Nat->List R->List (Nat×Nat)
 |_,[]=>[]
 |j,.var i::rs=>(j,i)::vars (j+1) rs
 |j,.dat _::rs=>vars (j+1) rs
 |j,.new _::rs=>vars (j+1) rs
noncomputable def back:List (Nat×Nat)->G->G->Option G
 | [],_,g=>some g
 | (j,i)::ps,gc,g=>match gc[j]? with
  |some (.own l)=>back ps gc (g.set i (.own l))
  |_=>none
noncomputable def dj(bor:List Nat)(g':G):R->Option R
 |.dat d=>some (.dat d)
 |.new l=>some (.new l)
 |.var j=>if j∈bor then none else match g'[j]? with |some (.own l)=>some (.new l) |_=>none
noncomputable def adr(σ:Sg)(i:Nat):Addr:=match σ[i]? with |some (some (.ref a))=>a |_=>0
theorem jz(h:σ[i]?=some (some (.ref a))):adr σ i=a:=by unfold adr;rw[h]
def bX(σ:Sg)(ps:List (Nat×Nat)):List (Nat×Addr):=ps.map λp=>(p.1,adr σ p.2)
noncomputable def dz(n:Nat)(gs:G):G:=gs++List.replicate (n - gs.length) .no
theorem Slots.append{K:Frag}{M:List Addr}{H:Hp}{g1 g2:G}{σ1 σ2:Sg}{A1 A2:List Addr}(p:Slots K M H g1 σ1 A1)(q:Slots K M H g2 σ2 A2):Slots K M H (g1++g2) (σ1++σ2) (A1++A2):=by
 induction p with
 |nil=>exact q
 |no p ih=>exact .no ih
 |dat r p ih=>exact .dat r ih
 |own e r p ih=>exact .own e r ih
theorem Slots.Zu{K:Frag}{M:List Addr}{H:Hp}:∀(n:Nat),Slots K M H (List.replicate n .no) (List.replicate n none) []
 | 0=>.nil
 |n+1=>by rw[oI,oI];exact .no (Slots.Zu n)
section
theorem Slots.zg{K:Frag}{g:G}{σ:Sg}{As:List Addr}{i j:Nat}{a:Addr}{l l':List D}(q:Slots K M H g σ As)(nd:As.Nodup)(e1:g[i]?=some (.own l))(e2:g[j]?=some (.own l'))(e3:σ[i]?=some (some (.ref a)))(e4:σ[j]?=some (some (.ref a))):i=j:=by
 induction q generalizing i j with
 |nil=>exact nomatch (show none=some (Slot.own l)from e1)
 |no q ih=>cases i with
  |zero=>exact nomatch (show some Slot.no=some (Slot.own l)from e1)
  |succ i=>cases j with
   |zero=>exact nomatch (show some Slot.no=some (Slot.own l')from e2)
   |succ j=>exact congrArg (· + 1) (ih nd e1 e2 e3 e4)
 |dat r q ih=>cases i with
  |zero=>exact nomatch (show some (Slot.dat _)=some (Slot.own l)from e1)
  |succ i=>cases j with
   |zero=>exact nomatch (show some (Slot.dat _)=some (Slot.own l')from e2)
   |succ j=>exact congrArg (· + 1) (ih nd e1 e2 e3 e4)
 |@own g σ As b xs ds h r q ih=>
  have no:∀{i:Nat}{l:List D},g[i]?=some (.own l)->σ[i]?=some (some (.ref a))->b=a->False:=λ{i l} e1 e3 e=>by
   obtain⟨c,xs,h1,h2,_⟩:=q.at e1;cases (show some (some (V.ref c))=some (some (V.ref a))from h1.symm.trans e3)
   exact (hV.mp nd).1 (e▸h2)
  cases i with
  |zero=>cases j with
   |zero=>rfl
   |succ j=>cases (show some (some (V.ref b))=some (some (V.ref a))from e3);exact (no e2 e4 rfl).elim
  |succ i=>cases j with
   |zero=>cases (show some (some (V.ref b))=some (some (V.ref a))from e4);exact (no e1 e3 rfl).elim
   |succ j=>exact congrArg (· + 1) (ih (hV.mp nd).2 e1 e2 e3 e4)
theorem oK(s:S z g σ As M H)(j:Nat)(q:jy z σ M H rs vs)(e:cu rs g=some gs) :
  gs.length=vs.length/\Slots z.K M H gs (vs.map some) ((bX σ (vars j rs)).map (·.2))/\
  (∀p∈bX σ (vars j rs),∃n l,p.1=j+n/\gs[n]?=some (.own l)/\vs[n]?=some (.ref p.2))/\
  (∀n l a,gs[n]?=some (.own l)->vs[n]?=some (.ref a)->(j+n,a)∈bX σ (vars j rs))/\
  (∀p∈vars j rs,∃l a,g[p.2]?=some (.own l)/\σ[p.2]?=some (some (.ref a))/\a∈As):=by
 induction q generalizing gs j with
 |nil=>cases e;exact⟨rfl,.nil,(λp hp=>nomatch hp),(λn l a h=>by simp at h),(λp hp=>nomatch hp)⟩
 |@dat d v rs vs r q ih=>
  unfold cu at e;cases e2:cu rs g with
  |none=>rw[e2]at e;cases e
  |some gs=>
   rw[e2]at e;cases e;obtain⟨h1,h2,h3,h4,h5⟩:=ih (j+1) e2;refine⟨by simp[h1],.dat r h2,λp hp=>?_,λn l a e1 e3=>?_,h5⟩
   . obtain⟨n,l,q1,q2,q3⟩:=h3 p hp;exact⟨n+1,l,by lia,by simpa using q2,by simpa using q3⟩
   .
    cases n with
    |zero=>simp at e1
    |succ n=>
     have:=h4 n l a (by simpa using e1) (by simpa using e3)
     rw[show j+(n+1)=j+1+n by lia]
     exact this
 |@var i v rs vs r q ih=>
  unfold cu at e;split at e
  .
   rename_i l hg;cases e2:cu rs g with
   |none=>rw[e2]at e;cases e
   |some gs=>
    rw[e2]at e;cases e;obtain⟨h1,h2,h3,h4,h5⟩:=ih (j+1) e2;obtain⟨a,xs,f1,f2,f3,f4⟩:=s.sl.at hg;have ea:adr σ i=a:=jz f1;rw[r]at f1;injection f1 with f1;injection f1 with f1;subst f1;have el:bX σ (vars j (.var i::rs))=(j,a)::bX σ (vars (j+1) rs):=by show (j,adr σ i)::bX σ (vars (j+1) rs)=_;rw[ea]
    rw[el];refine⟨by simp[h1],.own f3 f4 h2,λp hp=>?_,λn l' b e1 e3=>?_,λp hp=>?_⟩
    .
     rcases d6.mp hp with rfl |hp
     . exact⟨0,l,rfl,rfl,rfl⟩
     . obtain⟨n,l,q1,q2,q3⟩:=h3 p hp;exact⟨n+1,l,by lia,by simpa using q2,by simpa using q3⟩
    .
     cases n with
     |zero=>
      have e4:a=b:=by simpa using e3
      subst e4;exact dA
     |succ n=>
      have:=h4 n l' b (by simpa using e1) (by simpa using e3)
      rw[show j+(n+1)=j+1+n by lia]
      exact a9 _ this
    .
     rcases d6.mp (show p∈(j,i)::vars (j+1) rs from hp)with rfl |hp
     . exact⟨l,a,hg,r,f2⟩
     . exact h5 p hp
  . cases e
theorem rz{α β:Type}{f:α->β}:∀{l:List α},l.Nodup->(∀a∈l,∀b∈l,f a=f b->a=b)->(l.map f).Nodup
 | [],_,_=>qS
 |x::l,nd,h=>by
  rw[List.map_cons];refine hV.mpr ⟨λhm=>?_,rz (hV.mp nd).2 λa ha b hb=>h a (a9 _ ha) b (a9 _ hb)⟩
  obtain⟨y,hy,e⟩:=i7.mp hm;have:=h y (a9 _ hy) x dA e;exact (hV.mp nd).1 (this▸hy)
def rA(z:Z)(σ:Sg)(M:List Addr)(H:Hp)(rs:List R):Z:=⟨z.K,H,M,bX σ (vars 0 rs),z.T⟩
theorem lq:(rA z σ M H rs).bor=(vars 0 rs).map (·.1):=by show (bX σ (vars 0 rs)).map (·.1)=_;unfold bX;rw[List.map_map];rfl
theorem S.enter(s:S z g σ As M H){rs:List R}{vs:List V}{gs:G}{N:List Str}(r:jy z σ M H rs vs)(e:cu rs g=some gs)(nd:((vars 0 rs).map (·.2)).Nodup) :
  S (rA z σ M H rs) (dz N.length gs) (start N vs) ((bX σ (vars 0 rs)).map (·.2)) M H:=by
 obtain⟨h1,h2,h3,h4,h5⟩:=oK s 0 r e;have eB:(bX σ (vars 0 rs)).map (·.2)=((vars 0 rs).map (·.2)).map (adr σ):=by unfold bX;rw[List.map_map,List.map_map];rfl
 have mem:∀b∈(bX σ (vars 0 rs)).map (·.2),b∈As:=λb hb=>by
  rw[eB]at hb;obtain⟨i,hi,e⟩:=i7.mp hb;obtain⟨p,hp,e'⟩:=i7.mp hi;obtain⟨l,a,q1,q2,q3⟩:=h5 p hp;subst e';rw[jz q2]at e;subst e;exact q3
 have pre:∀{n:Nat}{o:Slot},gs[n]?=some o->(dz N.length gs)[n]?=some o:=λ{n o} q=>by
  unfold dz;rw[dL (b0.mp q).1];exact q
 have ownB:∀(n:Nat) (l:List D),(dz N.length gs)[n]?=some (.own l)->gs[n]?=some (.own l):=λn l q=>by
  unfold dz at q;rcases t6 n gs.length with h |h
  . rw[dL h]at q;exact q
  . rw[eA h]at q;have:=kS q;rw[vS]at this;exact absurd this.2 ⋯
 have st:∀{n:Nat}{v:V},vs[n]?=some v->(start N vs)[n]?=some (some v):=λ{n v} q=>by
  unfold L2.start;rw[dL (by rw[fR];exact (b0.mp q).1),oP,q]
  rfl
 have st':∀{n:Nat}{v:V},(start N vs)[n]?=some (some v)->vs[n]?=some v:=λ{n v} q=>by
  unfold L2.start at q;rcases t6 n vs.length with h |h
  .
   rw[dL (by rw[fR];exact h),oP]at q
   cases e:vs[n]? with
   |none=>rw[e]at q;cases q
   |some w=>rw[e]at q;injection q with q
  .
   rw[eA (by rw[fR];exact h)]at q
   have:=kS q;rw[vS]at this;exact absurd this.2 ⋯
 refine⟨?_,?_,λa ha=>s.sub a (mem a ha),λn a l q1 q2=>.inl ?_,s.live,λb o e _ _=>e,λm hm=>hm,λm hm=>?_,λb hb=>s.sub b (mem b hb),λp hp=>?_,s.tab,λp hp=>s.iu _ (s.tm p hp),s.tt⟩
 .
  have q:=h2.append (Slots.Zu (K:=z.K) (M:=M) (H:=H) (N.length - gs.length));rw[mB]at q;have e':start N vs=vs.map some++List.replicate (N.length - gs.length) none:=by unfold L2.start;rw[h1]
  rw[e'];exact q
 .
  rw[eB];refine rz nd λi hi j hj e=>?_
  obtain⟨p,hp,rfl⟩:=i7.mp hi;obtain⟨p',zh,rfl⟩:=i7.mp hj;obtain⟨l,a,q1,q2,q3⟩:=h5 p hp;obtain⟨l',a',JZ,Fd,Zv⟩:=h5 p' zh;rw[jz q2,jz Fd]at e;subst e;exact s.sl.zg s.nd q1 JZ q2 Fd
 . have hm:=h4 n l a (ownB n l q1) (st' q2);rw[Bz]at hm;exact⟨sB (f:=(·.1)) hm,sB (f:=(·.2)) hm⟩
 . exact λe=>s.fresh e hm
 . obtain⟨n,l,q1,q2,q3⟩:=h3 p hp;rw[Bz]at q1;rw[q1];exact⟨st q3,l,pre q2⟩
theorem Slots.transfer{K:Frag}{M M2:List Addr}{H H':Hp}(st:aq M H M2 H'){g g2:G}{σ:Sg}{As:List Addr}(q:Slots K M H g σ As)(hl:g2.length=g.length)
  (h1:∀(i:Nat) (l:List D) (a:Addr),g[i]?=some (.own l)->σ[i]?=some (some (.ref a))->∃l' xs',g2[i]?=some (.own l')/\H' a=some (.lst xs')/\aI K M2 H' l' xs')
  (h2:∀(i:Nat) (o:Slot),g[i]?=some o->(∀l,o≠.own l)->g2[i]?=some o):Slots K M2 H' g2 σ As:=by
 induction q generalizing g2 with
 |nil=>cases g2 with
  |nil=>exact .nil
  |cons a b=>cases hl
 |no q ih=>cases g2 with
  |nil=>cases hl
  |cons a b=>
   cases (show some a=some Slot.no from h2 0 .no rfl (λl z=>nomatch z))
   exact .no (ih (B1 hl) (λi l a e1 e2=>h1 (i+1) l a e1 e2) λi o e1 e2=>h2 (i+1) o e1 e2)
 |@dat g σ As v d r q ih=>cases g2 with
  |nil=>cases hl
  |cons a b=>
   cases (show some a=some (Slot.dat d)from h2 0 (.dat d) rfl (λl z=>nomatch z))
   exact .dat (r.stay st) (ih (B1 hl) (λi l a e1 e2=>h1 (i+1) l a e1 e2) λi o e1 e2=>h2 (i+1) o e1 e2)
 |@own g σ As a0 xs ds e0 r q ih=>cases g2 with
  |nil=>cases hl
  |cons a b=>
   obtain⟨l',xs',e1,e2,e3⟩:=h1 0 _ a0 rfl rfl;cases (show some a=some (Slot.own l')from e1)
   exact .own e2 e3 (ih (B1 hl) (λi l a e1 e2=>h1 (i+1) l a e1 e2) λi o e1 e2=>h2 (i+1) o e1 e2)
theorem rB:∀{ps:List (Nat×Nat)}{g gO:G},back ps gc g=some gO->(ps.map (·.2)).Nodup->gO.length=g.length/\
  (∀i,i∉ps.map (·.2)->gO[i]?=g[i]?)/\∀p∈ps,p.2<g.length->∃l,gc[p.1]?=some (.own l)/\gO[p.2]?=some (.own l)
 | [],g,gO,e,_=>by cases e;exact⟨rfl,λ_ _=>rfl,λp hp=>nomatch hp⟩
 | (j,i)::ps,g,gO,e,nd=>by
  unfold back at e;split at e
  .
   rename_i l hg;obtain⟨h1,h2,h3⟩:=rB e (hV.mp nd).2;refine⟨by rw[h1,pV],λk hk=>?_,λp hp qi=>?_⟩
   .
    have n1:k∉ps.map (·.2):=λz=>hk (a9 _ z)
    have n2:i≠k:=λz=>hk (z▸dA)
    rw[h2 k n1,eM n2]
   .
    rcases d6.mp hp with rfl |hp
    . refine⟨l,hg,?_⟩;have hlt':i<g.length:=qi;rw[h2 i (hV.mp nd).1,fI hlt']
    . exact h3 p hp (by rw[pV];exact qi)
  . cases e
theorem S.leave(s:S z g σ As M H){rs:List R}{vs:List V}{gs gc gO:G}{σc:Sg}{Ac Mc:List Addr}{Hc:Hp}{r r':R}{v:V}(rw':jy z σ M H rs vs)(e:cu rs g=some gs)(nd:((vars 0 rs).map (·.2)).Nodup)
  (sc:S (rA z σ M H rs) gc σc Ac Mc Hc) (st:aq M H Mc Hc) (q:cN (rA z σ M H rs) gc σc Ac Mc Hc r v) (hb:back (vars 0 rs) gc g=some gO) (hr:dj ((vars 0 rs).map (·.1)) gc r=some r') :
  ∃M2,S z gO σ As M2 Hc/\aq M H M2 Hc/\cN z gO σ As M2 Hc r' v:=by
 obtain⟨h1,h2,h3,h4,h5⟩:=oK s 0 rw' e;obtain⟨b1,b2,b3⟩:=rB hb nd;have hM:∀m∈M,m∈Mc:=sc.iu;have core:∀M2:List Addr,(∀m∈M,m∈M2)->(∀m∈M2,m∈Mc)->aq M H M2 Hc->S z gO σ As M2 Hc:=by
  intro M2 m1 m2 aK;refine⟨s.sl.transfer aK b1 (λi l a e1 e2=>?_) (λi o e1 e2=>?_),s.nd,λa ha=>m1 a (s.sub a ha),λi a l e1 e2=>?_,λm hm=>sc.live m (m2 m hm),λb o e1 e2 et=>?_,λm hm=>m1 m (s.iu m hm),s.m0,s.bm,λp hp=>⟨(s.iT p hp).1,?_⟩,sc.tab,s.tm,s.tt⟩
  .
   by_cases hi:i∈(vars 0 rs).map (·.2)
   .
    obtain⟨p,hp,rfl⟩:=i7.mp hi;obtain⟨l',q1,q2⟩:=b3 p hp (b0.mp e1).1;have hl:(p.1,adr σ p.2)∈bX σ (vars 0 rs):=sB (f:=λp:Nat×Nat=>(p.1,adr σ p.2)) hp
    obtain⟨c1,c2⟩:=sc.iT _ hl;obtain⟨a',xs,d1,d2,d3,d4⟩:=sc.sl.at q1;rw[c1]at d1;injection d1 with d1;injection d1 with d1;injection d1 with d1;rw[jz e2]at d1;subst d1;exact⟨l',xs,q2,d3,aI.stay (aq.less m2) d4⟩
   .
    obtain⟨a',xs,d1,d2,d3,d4⟩:=s.sl.at e1;rw[e2]at d1;injection d1 with d1;injection d1 with d1;injection d1 with d1;subst d1;refine⟨l,xs,by rw[b2 i hi];exact e1,sc.keep a _ d3 (λhB=>?_) (s.N5 d3),d4.stay aK⟩
    obtain⟨p,hp,ep⟩:=i7.mp (show a∈(bX σ (vars 0 rs)).map (·.2)from hB);obtain⟨p',zh,rfl⟩:=i7.mp hp;obtain⟨l2,a2,q1,q2,q3⟩:=h5 p' zh;have Jz:adr σ p'.2=a:=ep;rw[jz q2]at Jz;subst Jz;have:=s.sl.zg s.nd e1 q1 e2 q2;exact hi (this▸sB (f:=(·.2)) zh)
  .
   refine (b2 i λhi=>?_).trans e1
   obtain⟨p,hp,rfl⟩:=i7.mp hi;obtain⟨l2,a2,q1,q2,q3⟩:=h5 p hp;rw[e1]at q1;injection q1 with q1;exact e2 l2 q1
  .
   by_cases hi:i∈(vars 0 rs).map (·.2)
   . obtain⟨p,hp,rfl⟩:=i7.mp hi;obtain⟨l2,a2,q1,q2,q3⟩:=h5 p hp;exact s.own p.2 a l2 q1 e2
   . rw[b2 i hi]at e1;exact s.own i a l e1 e2
  .
   have e3:=s.keep b o e1 e2 et;refine sc.keep b o e3 (λhB=>?_) et
   obtain⟨p,hp,ep⟩:=i7.mp (show b∈(bX σ (vars 0 rs)).map (·.2)from hB);obtain⟨p',zh,rfl⟩:=i7.mp hp;obtain⟨l2,a2,q1,q2,q3⟩:=h5 p' zh;have Jz:adr σ p'.2=b:=ep;rw[jz q2]at Jz;subst Jz;rcases s.own p'.2 a2 l2 q1 q2 with w |w
   . exact e2 w.2
   . rw[w]at e1;cases e1
  .
   by_cases hi:p.1∈(vars 0 rs).map (·.2)
   . obtain⟨p',zh,e'⟩:=i7.mp hi;have e'':p'.2=p.1:=e';obtain⟨l2,a2,q1,q2,q3⟩:=h5 p' zh;obtain⟨l',JZ,Fd⟩:=b3 p' zh (b0.mp q1).1;exact⟨l',by rw[<- e''];exact Fd⟩
   . rw[b2 p.1 hi];exact (s.iT p hp).2
 have new:∀(a:Addr) (xs:List V) (l:List D),v=.ref a->a∈Mc->H a=none->Hc a=some (.lst xs)->aI z.K Mc Hc l xs->∃M2,S z gO σ As M2 Hc/\aq M H M2 Hc/\cN z gO σ As M2 Hc (.new l) v:=by
  intro a xs l ev hm h0 hx rr;have m2:∀m∈a::M,m∈Mc:=λm hm'=>(d6.mp hm').elim (λe=>e▸hm) (hM m)
  have aK:aq M H (a::M) Hc:=st.trans (aq.less m2);refine⟨a::M,core _ (λm hm'=>a9 _ hm') m2 aK,aK,a,xs,ev,dA,λhA=>?_,s.bW h0,hx,rr.stay (aq.less m2)⟩
  exact s.fresh h0 (s.sub a hA)
 cases r with
 |dat d=>cases hr;have aK:aq M H M Hc:=st.trans (aq.less hM);exact⟨M,core M (λm h=>h) hM aK,aK,Rep.stay (aq.less hM) q⟩
 |new l=>cases hr;obtain⟨a,xs,rfl,c1,c2,c3,c4,c5⟩:=q;exact new a xs l rfl c1 c3 c4 c5
 |var j=>
  obtain⟨l,q1,q2⟩:=q;have hr:(if j∈(vars 0 rs).map (·.1)then none else match gc[j]? with |some (.own l)=>some (R.new l) |_=>none)=some r':=hr
  split at hr
  . cases hr
  .
   rename_i hj;rw[q1]at hr;cases hr;obtain⟨a,xs,d1,d2,d3,d4⟩:=sc.sl.at q1;rw[q2]at d1;injection d1 with d1;injection d1 with d1;subst d1;refine new a xs l rfl (sc.sub a d2) ?_ d3 d4;rcases sc.own j a l q1 q2 with w |w
   . have w':=w.1;rw[lq]at w';exact absurd w' hj
   . exact w
end
theorem jy.length(q:jy z σ M H rs vs):vs.length=rs.length:=by
 induction q with
 |nil=>rfl
 |dat r q ih=>exact congrArg (· + 1) ih
 |var r q ih=>exact congrArg (· + 1) ih
def Km(K:Frag)(N:List Str)(np:Nat)(run:List Nat->G->R->G->Prop):Sp:=λvs H Q _=>
 vs.length=np/\∃(z:Z) (g g':G) (As M:List Addr) (r:R),z.K=K/\S z g (start N vs) As M H/\run z.bor g r g'/\
  ∀v σ' aC M' H',S z g' σ' aC M' H'->aq M H M' H'->cN z g' σ' aC M' H' r v->Q v H'
section
variable{run:List Nat->G->R->G->Prop}
theorem zj(F:iZ X.prog X.w X.K X.mg X.base uB k f fd ps (Km X.K N ps.length run))(hK:z.K=X.K)(hr:cD k X.A)(hg:Gl X x)(hm:X.mg x=some (.ref f))(hk:PySem.W.keepIn X.K (.ref f)=true)(hb:Binds X.K fd ps [])
  (ha:cO X z (e::es) g rs g1) (aL:rs.length=ps.length) (hl:cu rs g1=some gs) (nd:((vars 0 rs).map (·.2)).Nodup) (hrun:run ((vars 0 rs).map (·.1)) (dz N.length gs) r gc) (Fe:back (vars 0 rs) gc g1=some gO) (ho:dj ((vars 0 rs).map (·.1)) gc r=some r')
  (jt:(x==("__debug__":Str))=false) (he:starEach (e::es) X.env=(false,eval e X.env)::starEach es X.env) (gQ:(backTo pos (starEach es X.env)).any (·.1)=false) :
  aD X z (.Call (.Name x p) (e::es) [] pos) g r' gO:=by
 obtain⟨t,q,kk⟩:=ha;refine⟨_,yT F hr hg hm hk hb .nil N4 q jt he gQ,λσ As M H Q s kq=>kk σ As M H _ s λvs H1 aO M1 s1 cI R1=>?_⟩
 have hv:vs.length=rs.length:=R1.length;have ee:=s1.enter (N:=N) R1 hl nd;refine⟨by rw[mB,hv];exact aL,rA z σ M1 H1 rs,dz N.length gs,gc,_,M1,r,hK,by rw[mB];exact ee,by rw[lq];exact hrun,λv σ' aC M' H' s' st' R'=>?_⟩
 obtain⟨M2,s2,aK,R2⟩:=s1.leave R1 hl nd s' st' R' Fe ho;exact kq v H' aO M2 s2 (cI.trans aK) R2
theorem zm{P:Program}{w:World}{K:Frag}{mg:Str->Option Value}{base:Heap}{qual:Str}{st:Stmt}(F:Jk K x qual st f fd)(Sc:bS N ps (aE st))
  (h:∀(bD:Value) (A:Around) (outer:List Env) (s:Shared) (H:Hp) (E:XK),PySem.W.codeIn K bD qual=true->cD k (A.deeper (envOfC qual (aE st) s⁻¹ f bD))->
   ∀(z:Z) (g:G) (r:R) (g':G),z.K=K->run z.bor g r g'->∃fl,dY (fL uB P w K mg base N qual (aE st) f bD A outer s H E).mh z (bA st) g fl g'/\(fl=.rt r\/(fl=.nx/\r=.dat .non))) :
  iZ P w K mg base uB (k+1) f fd ps (Km K N ps.length run):=by
 obtain⟨oc,od,kV,doc,pm,an,bD,ct,osl,rfl,lk,bE⟩:=F.ex;refine N2 lk bE Sc (λvs H Q E q=>q.1) λA outer s H vs Q E hr ⟨_,z,g,g',As,M,r,hK,hs,hrun,hQ⟩=>?_
 obtain⟨fl,⟨t,q,kk⟩,hfl⟩:=h bD A outer s H E bE hr z g r g' hK hrun;refine⟨t,q.mh,kk _ As M H _ hs ?_⟩;rcases hfl with rfl |⟨rfl,rfl⟩
 . exact λv σ' aC M' H' s' st' R'=>hQ v σ' aC M' H' s' st' R'
 . exact λσ' aC M' H' s' st'=>hQ .non σ' aC M' H' s' st' .non
end
inductive Tg where
 |nm (i:Nat) |tp (is:List Nat)
noncomputable def lu:List Nat->List D->G->G
 |i::is,d::ds,g=>lu is ds (g.set i (.dat d))
 | [],_,g=>g
 |_::_,[],g=>g
noncomputable def Tg.ix:Tg->List Nat
 |.nm i=>[i]
 |.tp is=>is
def Tg.set:Tg->D->G->Option G
 |.nm i,d,g=>some (g.set i (.dat d))
 |.tp is,.tup ds,g=>if ds.length=is.length then some (lu is ds g)else none
 |.tp is,.lst ds,g=>if ds.length=is.length then some (lu is ds g)else none
 |.tp _,_,_=>none
def uC(is:List Nat)(σ σ':Sg):Prop:=σ'.length=σ.length/\∀j,j∉is->σ'[j]?=σ[j]?
theorem uC.refl(is:List Nat)(σ:Sg):uC is σ σ:=⟨rfl,λ_ _=>rfl⟩
theorem uC.trans{is:List Nat}{σ σ1 σ2:Sg}(a:uC is σ σ1)(b:uC is σ1 σ2):uC is σ σ2:=⟨b.1.trans a.1,λj h=>(b.2 j h).trans (a.2 j h)⟩
theorem uC.mono(h:∀i∈is,i∈js)(a:uC is σ σ'):uC js σ σ':=⟨a.1,λj hj=>a.2 j λz=>hj (h j z)⟩
def iA(X:Cx)(z:Z)(tg:Expr)(T:Tg):Prop:=∃t,PG X tg t/\∀d g g',T.set d g=some g'->∀v σ As M H (Q:Sg->Hp->Prop),S z g σ As M H->Rep z.K M H d v->(∀σ' aC,S z g' σ' aC M H->uC T.ix σ σ'->Q σ' H)->t v σ H Q
structure oM(X:Cx)(x:Str)(i:Nat):Prop where
 nd:X.N.Nodup
 ix:X.N[i]?=some x
 lc:Loc X.env.scope x
 fn:X.fn x=true\/X.env.scope.names.lookup x=some .local
section
theorem W6(h:oM X x i)(hb:i∉z.bor):iA X z (.Name x pos) (.nm i):=
 ⟨_,iQ h.nd h.ix h.lc h.fn,λd g g' e v σ As M H Q s r k=>by
  cases e;obtain⟨aC,s'⟩:=s.jx (i:=i) hb r;exact k _ aC s' ⟨by rw[pV],λj hj=>by rw[eM (λe=>hj (by rw[<- e];exact fA.mpr rfl))]⟩⟩
inductive j6(X:Cx):List Expr->List Nat->Prop
 |nil:j6 X [] []
 |cons {x:Str}{p:Pos}{i:Nat}{es:List Expr}{is:List Nat}:oM X x i->j6 X es is->j6 X (.Name x p::es) (i::is)
theorem j6.plain(h:j6 X es is):(assignEach es X.env).length=is.length/\(assignEach es X.env).findIdx? (·.1)=none:=by
 induction h with
 |nil=>exact⟨rfl,rfl⟩
 |cons _ _ ih=>
  refine⟨?_,?_⟩
  . show (assignEach _ X.env).length+1=_;rw[ih.1];rfl
  . show List.findIdx? _ ((false,assign _ X.env)::assignEach _ X.env)=none;rw[List.findIdx?_cons,ih.2];rfl
theorem j6.pgs(h:j6 X es is)(hb:∀i∈is,i∉z.bor):∃t,Vb X es t/\∀ds vs g σ As M H (Q:Sg->Hp->Prop),ds.length=is.length->S z g σ As M H->aI z.K M H ds vs->(∀σ' aC,S z (lu is ds g) σ' aC M H->uC is σ σ'->Q σ' H)->t vs σ H Q:=by
 induction h with
 |nil=>
  refine⟨_,su,λds vs g σ As M H Q hl s r k=>?_⟩
  cases r with
  |nil=>exact⟨rfl,k σ As s (uC.refl _ _)⟩
  |cons _ _=>simp at hl
 |@cons x p i es is hn hs ih=>
  obtain⟨t,q,kk⟩:=ih λj hj=>hb j (a9 _ hj)
  refine⟨_,g8 (iQ hn.nd hn.ix hn.lc hn.fn) q rfl,λds vs g σ As M H Q hl s r k=>?_⟩
  cases r with
  |nil=>simp at hl
  |@cons d ds v vs r rs=>
   obtain⟨aO,s1⟩:=s.jx (i:=i) (hb i dA) r;refine⟨v,vs,rfl,kk ds vs _ _ aO M H Q (by simpa using hl) s1 rs λσ' aC s' a=>k σ' aC s' ?_⟩
   refine uC.trans ⟨by rw[pV],λj hj=>?_⟩ (a.mono λj hj=>a9 _ hj)
   rw[eM (λe=>hj (by rw[<- e];exact dA))]
theorem xx{prog:Program}{w:World}{A:Around}{E:Value->Shared->Prop}{it l:Addr}{xs:Array Value}(ne:l≠it)(n:Nat):∀(i:Nat) (s:Shared) (Q:List Value->Shared->Prop),s.heap.IsListIter it l i->s.heap.IsList l xs->i+n=xs.size->
  (∀h',h'.IsListIter it l xs.size->Heap.SameBut it s.heap h'->Q (xs.toList.drop i) { s with heap:=h'})->wpAny (model prog w) A (draw (.ref it) n) Q E s:=by
 induction n with
 |zero=>
  intro i s Q hit _ hi k;have e:xs.toList.drop i=[]:=List.drop_eq_nil_of_le (by rw[nE];lia)
  have q:=k s.heap (by rw[<- hi];exact hit) (Heap.SameBut.refl ..)
  rw[e]at q;exact dE q
 |succ n ih=>
  intro i s Q hit hl hi k;have qi:i<xs.size:=by lia
  refine aS (wpAny_pyNext_list_item hit hl (x:=xs[i]) (by simp[qi]) λh1 b1 c1=>?_)
  refine aS (mM (ih (i+1) _ _ b1 (hl.extBut c1.extBut ne) ⋯ λh2 b2 c2=>dE ?_))
  have q:=k h2 b2 (c1.trans c2);rw[List.drop_eq_getElem_cons (by rw[nE];exact qi)]at q
  exact q
theorem uT{prog:Program}{w:World}{A:Around}{E:Value->Shared->Prop}{s:Shared}{l:Addr}{xs:Array Value}{Q:List Value->Shared->Prop}(hh:A.handled=none)(hl:s.heap.IsList l xs)
  (k:∀h',Heap.ExtBut s⁻¹ s.heap h'->Q xs.toList { s with heap:=h'}):wpAny (model prog w) A (unpackItems (.ref l) xs.size none) Q E s:=by
 have ne:l≠s⁻¹:=by obtain⟨o,ho,_⟩:=hl;exact l4 (eP ho)
 unfold unpackItems;refine aS ?_;unfold notIterableAtAll;refine aS (wpAny_specialOf hl.typeIs slot_list_iter.lookup ?_);refine dE ?_;simp only[AN,CD];refine aS (mM (wpAny_pyIter_list hl ?_));refine aS (mM (xx ne xs.size 0 _ _ ⟨_,eJ _ rfl,rfl,rfl⟩ (hl.push _) (Bz _) λh1 b1 c1=>?_))
 rw[List.drop_zero,gN ⋯];refine aS (mM (wpAny_pyNext_list_end hh b1 ((hl.push _).extBut c1.extBut ne) ⋯ λh2 e2=>?_))
 simp only[Option.isSome_none,AN,CD];exact dE (k h2 λb o nb e=>e2 b o nb (c1.extBut b o nb (bP _ e)))
def gSeq(K:Frag)(n:Nat)(t:NX):TG:=λv σ H Q=>∃a xs,v=.ref a/\(g7 K H a xs\/bZ K H a xs)/\xs.length=n/\t xs σ H Q
theorem Rc{es:List Expr}{k:Nat}{t:NX}{n:Nat}(hc:X.calm=true)(h:Vb X es t)(hn:(assignEach es X.env).length=n)(bY:(assignEach es X.env).findIdx? (·.1)=none):PG X (.Tuple es k pos) (gSeq X.K n t):=by
 intro ah s σ H v u Q I r hw;obtain⟨a,xs,e1,hq,hl,hw⟩:=hw;rcases hq with hq |hq
 . exact wK hc h hn bY ah s σ H v u Q I r ⟨a,xs,e1,hq,hl,hw⟩
 .
  subst e1;cases r;obtain⟨its,rv,pl,hz⟩:=I.list hq;rw[assign_Tuple];refine aS (AG ?_);unfold unpack;rw[bY,show (assignEach es X.env).length=its.toArray.size by rw[hn,<- hl,rv.length,dC]]
  refine aS (mM (uT (I.ok.hd hc) pl.isList λh' hx=>?_))
  have I1:L2.Inv X ah σ H { s with heap:=h'}:=I.kept (t':=s.toks) λb o e=>hx b o (l4 (eP e)) e
  exact h ah _ σ H xs _ Q I1 (by simpa using rv) hw
theorem W7(hc:X.calm=true)(hK:z.K=X.K)(h:j6 X es is)(hb:∀i∈is,i∉z.bor):iA X z (.Tuple es k pos) (.tp is):=by
 obtain⟨t,q,kk⟩:=h.pgs (z:=z) hb;refine⟨_,Rc (n:=is.length) hc q h.plain.1 h.plain.2,λd g g' e v σ As M H Q s r k=>?_⟩
 cases d with
 |tup ds=>
  have e:(if ds.length=is.length then some (lu is ds g)else none)=some g':=e
  by_cases hl:ds.length=is.length
  .
   rw[fN hl]at e;cases e;cases r with
   |@tup _ a xs ha rr=>exact⟨a,xs,rfl,.inl (hK▸ha.sq),by rw[<- rr.length];exact hl,kk ds xs g σ As M H Q hl s rr k⟩
  . rw[gN hl]at e;cases e
 |lst ds=>
  have e:(if ds.length=is.length then some (lu is ds g)else none)=some g':=e
  by_cases hl:ds.length=is.length
  .
   rw[fN hl]at e;cases e;cases r with
   |@lst _ a xs ha rr=>exact⟨a,xs,rfl,.inr (bZ.of ha.2),by rw[<- rr.length];exact hl,kk ds xs g σ As M H Q hl s rr k⟩
  . rw[gN hl]at e;cases e
 |_=>cases e
def Jt(J:It)(aj:List D)(K:Frag)(M1:List Addr)(H1:Hp):Prop:=
 ∀M2 H2,aq M1 H1 M2 H2->(∀n d,aj[n]?=some d->J.go n H2/\∀x H',J.V9 n H2 x H'->∀(z:Z) g σ As,z.K=K->S z g σ As M2 H2->S z g σ As M2 H'/\aq M2 H2 M2 H'/\Rep K M2 H' d x)/\J.stop aj.length H2
def dZ(X:Cx)(z:Z)(tg iter:Expr)(g:G)(aj:List D)(g1:G):Prop:=
 ∃wi,PI X tg iter wi/\∀σ As M H (R:It->Hp->Prop),S z g σ As M H->(∀J H' aC M',S z g1 σ aC M' H'->aq M H M' H'->Jt J aj z.K M' H'->R J H')->wi σ H R
theorem Rf(hK:z.K=X.K)(h:aD X z iter g (.dat (.tup l)) g1):dZ X z tg iter g l g1:=by
 obtain⟨t,q,k⟩:=h;refine⟨_,DT q,λσ As M H R s kk=>k σ As M H _ s λv H1 aO M1 s1 cI r=>?_⟩
 have r':Rep z.K M1 H1 (.tup l) v:=r;cases r' with
 |@tup _ a xs ha rr=>
  refine⟨a,rfl,⟨xs,hK▸ha.sq⟩,kk _ H1 aO M1 s1 cI λM2 H2 aK=>?_⟩
  have r2:=Rep.stay aK (Rep.tup ha rr);have ha2:TupAt z.K M2 H2 a xs:=by
   rcases ha with ⟨na,hr⟩ |hk
   . exact .inl (aK.rd na hr)
   . exact .inr hk
  have Dq:=rr.stay aK;refine⟨λn d hd=>?_,xs,hK▸ha2.sq,by rw[rr.length];exact dS _⟩
  obtain⟨x,e1,e2⟩:=Dq.get hd;refine⟨⟨xs,x,hK▸ha2.sq,e1⟩,λy H' hy z' g' σ' aC _ s'=>?_⟩
  obtain⟨rfl,hy⟩:=hy;have:=hy xs (hK▸ha2.sq);rw[e1]at this;cases this;exact⟨s',aq.refl _ _,e2⟩
theorem Rg(h:aD X z iter g (.dat (.lst l)) g1):dZ X z tg iter g l g1:=by
 obtain⟨t,q,k⟩:=h;refine⟨_,sy q,λσ As M H R s kk=>k σ As M H _ s λv H1 aO M1 s1 cI r=>?_⟩
 have r':Rep z.K M1 H1 (.lst l) v:=r;cases r' with
 |@lst _ a xs ha rr=>
  refine⟨a,rfl,⟨xs,bZ.of ha.2⟩,kk _ H1 aO M1 s1 cI λM2 H2 aK=>?_⟩
  have ha2:=(aK _ _ ha.2 ha.1).1;have Dq:=rr.stay aK;refine⟨λn d hd=>?_,xs,bZ.of ha2,by rw[rr.length];exact dS _⟩
  obtain⟨x,e1,e2⟩:=Dq.get hd;refine⟨⟨xs,x,bZ.of ha2,e1⟩,λy H' hy z' g' σ' aC _ s'=>?_⟩
  obtain⟨rfl,hy⟩:=hy;have:=hy xs (bZ.of ha2);rw[e1]at this;cases this;exact⟨s',aq.refl _ _,e2⟩
theorem Rh(hK:z.K=X.K)(h:aD X z iter g (.dat (.fix l)) g1):dZ X z tg iter g l g1:=by
 obtain⟨t,q,k⟩:=h;refine⟨_,sy q,λσ As M H R s kk=>k σ As M H _ s λv H1 aO M1 s1 cI r=>?_⟩
 have r':Rep z.K M1 H1 (.fix l) v:=r;cases r' with
 |@fix _ a xs ha rr=>
  refine⟨a,rfl,⟨xs,hK▸ha.sq⟩,kk _ H1 aO M1 s1 cI λM2 H2 aK=>?_⟩
  have ha2:mC z.K M2 H2 a xs:=by
   rcases ha with ⟨na,o,hr⟩ |hk
   . exact .inl ⟨(aK _ _ hr na).2,o,(aK _ _ hr na).1⟩
   . exact .inr hk
  have Dq:=rr.stay aK;refine⟨λn d hd=>?_,xs,hK▸ha2.sq,by rw[rr.length];exact dS _⟩
  obtain⟨x,e1,e2⟩:=Dq.get hd;refine⟨⟨xs,x,hK▸ha2.sq,e1⟩,λy H' hy z' g' σ' aC _ s'=>?_⟩
  obtain⟨rfl,hy⟩:=hy;have:=hy xs (hK▸ha2.sq);rw[e1]at this;cases this;exact⟨s',aq.refl _ _,e2⟩
theorem Fg{lo:Int}{n:Nat}{K:Frag}{M:List Addr}{H:Hp}:Jt (PB lo n) (cL lo n) K M H:=λM2 H2 _=>by
 refine⟨λk d hd=>?_,?_⟩
 .
  have hk:k<n:=by have:=(b0.mp hd).1;rw[uS]at this;exact this
  rw[Fb hk]at hd;cases hd;refine⟨hk,λx H' hx z' g' σ' aC _ s'=>?_⟩
  obtain⟨rfl,rfl⟩:=hx;exact⟨s',aq.refl _ _,.int _⟩
 . show n<=(cL lo n).length;rw[uS];exact dS _
theorem Ko(h:cO X z [a] g [.dat (.int j)] g1)(hg:Gl X "range")(hm:X.mg "range"=none)(hs:starEach [a] X.env=[(false,eval a X.env)])(h1 : -(2 ^ 62)<=j)(h2:j<2 ^ 62) :
  dZ X z tg (.Call (.Name "range" p) [a] [] rp) g (cL 0 j.toNat) g1:=by
 obtain⟨wi,q,k⟩:=Bd (p:=p) (rp:=rp) h hg hm hs h1 h2 (tg:=tg);exact⟨wi,q,λσ As M H R s kk=>k σ As M H _ s λH' aC M' s' st=>kk _ H' aC M' s' st Fg⟩
theorem Kp(h:cO X z [a,b] g [.dat (.int c),.dat (.int j)] g1)(hg:Gl X "range")(hm:X.mg "range"=none)(hs:starEach [a,b] X.env=[(false,eval a X.env),(false,eval b X.env)])(hs2:starEach [b] X.env=[(false,eval b X.env)])
  (h1 : -(2 ^ 62)<=c/\c<2 ^ 62/\-(2 ^ 62)<=j/\j<2 ^ 62):dZ X z tg (.Call (.Name "range" p) [a,b] [] rp) g (cL c (j - c).toNat) g1:=by
 obtain⟨wi,q,k⟩:=Be (p:=p) (rp:=rp) h hg hm hs hs2 h1 (tg:=tg);exact⟨wi,q,λσ As M H R s kk=>k σ As M H _ s λH' aC M' s' st=>kk _ H' aC M' s' st Fg⟩
inductive eS(X:Cx)(z:Z)(body:List Stmt)(T:Tg):List D->G->Fl->G->Prop
 |nil {g:G}:eS X z body T [] g .nx g
 |next {d:D}{l:List D}{g g0 g1 g2:G}{f:Fl}:T.set d g=some g0->dY X z body g0 .nx g1->eS X z body T l g1 f g2->eS X z body T (d::l) g f g2
 |cont {d:D}{l:List D}{g g0 g1 g2:G}{f:Fl}:T.set d g=some g0->dY X z body g0 .ct g1->eS X z body T l g1 f g2->eS X z body T (d::l) g f g2
 |brk {d:D}{l:List D}{g g0 g1:G}:T.set d g=some g0->dY X z body g0 .bk g1->eS X z body T (d::l) g .nx g1
 |ret {d:D}{l:List D}{g g0 g1:G}{r:R}:T.set d g=some g0->dY X z body g0 (.rt r) g1->eS X z body T (d::l) g (.rt r) g1
theorem Ri(hp:PassesOwn (model X.prog X.w) X.A X.env X.xe)(hc:X.calm=true)(hw:dZ X z tg iter g aj g1)(ht:iA X z tg T)(hb:eS X z body T aj g1 f g')(hs:∀y,foldedSetIterable iter X.env y=pure y) :
  fW X z (.For tg iter body [] pos) g f g':=by
 obtain⟨wi,q,k⟩:=hw;obtain⟨t,qt,kt⟩:=ht;refine⟨_,DW hp hc q qt zc hs,λσ As M H E s kk=>k σ As M H _ s λJ H1 aO M1 s1 cI hJ=>?_⟩
 refine⟨λi m σ2 H2=>i+m=aj.length/\∃g2 bw M2,S z g2 σ2 bw M2 H2/\aq M1 H1 M2 H2/\eS X z body T (aj.drop i) g2 f g',⟨aj.length,by lia,g1,aO,M1,s1,aq.refl _ _,by simpa using hb⟩,?_⟩
 rintro i m σ2 H2 ⟨W8,g2,bw,M2,s2,aK,lo⟩;obtain⟨hgo,hstop⟩:=hJ M2 H2 aK;cases e:aj[i]? with
 |none=>
  have hi:i=aj.length:=by have:=l7.mp e;lia
  subst hi;rw[AZ]at lo;refine .inl ⟨hstop,?_⟩;cases lo;exact kk σ2 bw M2 H2 s2 (cI.trans aK)
 |some d=>
  obtain⟨go,yl⟩:=hgo i d e;rw[drop_cons e]at lo;have hi:i<aj.length:=(b0.mp e).1;refine .inr ⟨go,λσ' H'=>∃g3 mF M3,S z g3 σ' mF M3 H'/\aq M1 H1 M3 H'/\eS X z body T (aj.drop (i+1)) g3 f g',λσ' H' ⟨g3,mF,M3,w1,w2,w3⟩=>⟨m - 1,by lia,by lia,g3,mF,M3,w1,w2,w3⟩,λx H' hx=>?_⟩
  obtain⟨s3,dU,rx⟩:=yl x H' hx z g2 σ2 bw rfl s2;have kk':=(kk.trans cI).trans (aK.trans dU);have W9:=aK.trans dU;cases lo with
  |next e0 b h=>
   refine kt d g2 _ e0 x σ2 bw M2 H' _ s3 rx λσ' aC s' _=>?_
   obtain⟨t,q,kb⟩:=b;exact⟨t,q,kb _ aC M2 H' _ s' λσ4 jd M4 H4 s4 oN=>⟨_,jd,M4,s4,W9.trans oN,h⟩⟩
  |cont e0 b h=>
   refine kt d g2 _ e0 x σ2 bw M2 H' _ s3 rx λσ' aC s' _=>?_
   obtain⟨t,q,kb⟩:=b;exact⟨t,q,kb _ aC M2 H' _ s' λσ4 jd M4 H4 s4 oN=>⟨_,jd,M4,s4,W9.trans oN,h⟩⟩
  |brk e0 b=>
   refine kt d g2 _ e0 x σ2 bw M2 H' _ s3 rx λσ' aC s' _=>?_
   obtain⟨t,q,kb⟩:=b;exact⟨t,q,kb _ aC M2 H' _ s' λσ4 jd M4 H4 s4 oN=>kk' σ4 jd M4 H4 s4 oN⟩
  |ret e0 b=>
   refine kt d g2 _ e0 x σ2 bw M2 H' _ s3 rx λσ' aC s' _=>?_
   obtain⟨t,q,kb⟩:=b;exact⟨t,q,kb _ aC M2 H' _ s' λv σ4 jd M4 H4 s4 oN R=>kk' v σ4 jd M4 H4 s4 oN R⟩
end
noncomputable def gC(k:Nat)(g:G):G:=g++(List.replicate k .no++[.own []])
def cP(X:Cx)(z:Z)(ifs:List Expr)(g:G)(b:Bool)(g':G):Prop:=
 ∃t,kX X ifs t/\∀σ As M H (Q:Bool->Hp->Prop),S z g σ As M H->(∀H' aC M',S z g' σ aC M' H'->aq M H M' H'->Q b H')->t σ H Q
theorem Kq:cP X z [] g true g:=⟨_,oq,λσ As M H Q s k=>k H As M s (aq.refl _ _)⟩
theorem Kr(h:cg X z c g b g'):cP X z [c] g b g':=let ⟨t,q,k⟩:=h;⟨t,Ej q,k⟩
inductive je(T:Tg)(last:Nat)(sO:G->Bool->G->Prop)(Jm:G->D->G->Prop):List D->G->G->Prop
 |nil {g:G}:je T last sO Jm [] g g
 |skip:T.set d g=some g1->sO g1 false g2->je T last sO Jm l g2 g'->je T last sO Jm (d::l) g g'
 |take:T.set d g=some g1->sO g1 true g2->Jm g2 e g3->g3[last]?=some (.own acc)->acc.length<16777216->je T last sO Jm l (g3.set last (.own (acc++[e]))) g'->je T last sO Jm (d::l) g g'
section
theorem S.extend(s:S z g σ As M H)(hm:a∈M)(hA:a∉As)(h0:z.H0 a=none)(h:H a=some (.lst xs))(r:aI z.K M H l xs) :
  S z (g++(List.replicate k .no++[.own l])) (σ++(List.replicate k none++[some (.ref a)])) (As++([]++[a])) M H:=by
 have hl:=s.sl.length;refine⟨s.sl.append ((Slots.Zu k).append (.own h r .nil)),?_,λb hb=>?_,λi b l' e1 e2=>?_,s.live,s.keep,s.iu,s.m0,s.bm,λp hp=>?_,s.tab,s.tm,s.tt⟩
 .
  rw[AD];refine BY.mpr ⟨s.nd,hV.mpr ⟨by simp,qS⟩,λx hx y hy e=>?_⟩
  rw[fA.mp hy]at e;exact hA (e▸hx)
 .
  rcases AB.mp hb with q |q
  . exact s.sub b q
  . rw[AD]at q;rw[fA.mp q];exact hm
 .
  rcases t6 i g.length with hi |hi
  . rw[dL hi]at e1;rw[dL ⋯]at e2;exact s.own i b l' e1 e2
  .
   rw[eA hi]at e1;rw[eA ⋯]at e2;rcases t6 (i - g.length) k with hk |hk
   .
    rw[dL (by rw[gL];exact hk)]at e1
    have:=kS e1;rw[vS]at this;exact absurd this.2 ⋯
   .
    rw[eA (by rw[gL];lia),gL]at e2
    have e3:i - σ.length - k=0:=by
     rcases Nat.eq_zero_or_pos (i - σ.length - k)with q |q
     . exact q
     . rw[AR (Nat.succ_le_of_lt q)]at e2;cases e2
    rw[e3]at e2;have e4:some (some (V.ref a))=some (some (V.ref b)):=e2;injection e4 with e4;injection e4 with e4;injection e4 with e4;exact .inr (e4▸h0)
 . obtain⟨q1,l',q2⟩:=s.iT p hp;exact⟨by rw[dL (b0.mp q1).1];exact q1,l',by rw[dL (b0.mp q2).1];exact q2⟩
theorem Slots.split{K:Frag}{g1 g2:G}{σ:Sg}{As:List Addr}(q:Slots K M H (g1++g2) σ As):∃σ1 σ2 A1 A2,σ=σ1++σ2/\As=A1++A2/\Slots K M H g1 σ1 A1/\Slots K M H g2 σ2 A2:=by
 induction g1 generalizing σ As with
 |nil=>exact⟨[],_,[],_,rfl,rfl,.nil,q⟩
 |cons o g1 ih=>cases q with
  |no q=>obtain⟨s1,s2,a1,a2,rfl,rfl,h1,h2⟩:=ih q;exact⟨_::s1,s2,a1,a2,rfl,rfl,.no h1,h2⟩
  |dat r q=>obtain⟨s1,s2,a1,a2,rfl,rfl,h1,h2⟩:=ih q;exact⟨_::s1,s2,a1,a2,rfl,rfl,.dat r h1,h2⟩
  |own e r q=>obtain⟨s1,s2,a1,a2,rfl,rfl,h1,h2⟩:=ih q;exact⟨_::s1,s2,_::a1,a2,rfl,rfl,.own e r h1,h2⟩
theorem S.shrink{gb:G}{τ:Sg}{l:List D}{i:Nat}{a:Addr}(s:S z gb (σ++τ) As M H)(hz:∀p∈z.lent,p.1<σ.length)(hi:σ.length<=i)(e1:gb[i]?=some (.own l))(e2:(σ++τ)[i]?=some (some (.ref a))) :
  ∃A1,S z (gb.take σ.length) σ A1 M H/\a∈M/\a∉A1:=by
 have hl:=s.sl.length;rw[eR]at hl;have q:=s.sl;rw[<- List.take_append_drop σ.length gb]at q;obtain⟨σ1,σ2,A1,A2,h1,h2,h3,h4⟩:=q.split;have l1:=h3.length;rw[wE,Nat.min_eq_left ⋯]at l1;obtain⟨rfl,rfl⟩:=List.append_inj h1 l1;subst h2;have hA2:a∈A2:=by
  obtain⟨b,xs,f1,f2,_⟩:=h4.at (i:=i - σ.length) (l:=l) (by rw[List.getElem?_drop,Nat.add_sub_cancel' hi];exact e1)
  rw[eA hi]at e2;rw[e2]at f1;injection f1 with f1;injection f1 with f1;injection f1 with f1;exact f1▸f2
 have tk:∀(j:Nat) (o:Slot),(gb.take σ.length)[j]?=some o->gb[j]?=some o/\j<σ.length:=λj o e=>by
  have hj:=(b0.mp e).1;rw[wE]at hj;have hj':j<σ.length:=eD hj (Nat.min_le_left _ _);rw[u8 hj']at e;exact⟨e,hj'⟩
 refine⟨A1,⟨h3,(BY.mp s.nd).1,λb hb=>s.sub b (AA _ hb),λj b l' c1 c2=>?_,s.live,s.keep,s.iu,s.m0,s.bm,λp hp=>?_,s.tab,s.tm,s.tt⟩,s.sub a (i6 _ hA2),λhA=>(BY.mp s.nd).2.2 a hA a hA2 rfl⟩
 . obtain⟨c3,c4⟩:=tk j _ c1;exact s.own j b l' c3 (by rw[dL c4];exact c2)
 . obtain⟨c1,l',c2⟩:=s.iT p hp;have zh:=hz p hp;rw[dL zh]at c1;exact⟨c1,l',by rw[u8 zh];exact c2⟩
theorem eU(h:uC is (σ++τ) σ')(hi:∀i∈is,σ.length<=i):∃τ',σ'=σ++τ':=by
 refine⟨σ'.drop σ.length,?_⟩;have e:σ'.take σ.length=σ:=by
  apply List.ext_getElem?;intro j;rcases t6 j σ.length with hj |hj
  . rw[u8 hj,h.2 j (λz=>Nat.not_lt.mpr (hi j z) hj),dL hj]
  . rw[AR (by rw[wE];exact i5 (Nat.min_le_left _ _) hj),AR hj]
 have:=(List.take_append_drop σ.length σ').symm;rw[e]at this;exact this
end
section
def Fj(X:Cx)(tg:Expr):TG:=λv σ H Q=>∃t,PG X tg t/\t v σ H Q
theorem lz:PG X tg (Fj X tg):=λah s σ H v u Q I r h=>let ⟨t,q,k⟩:=h;q ah s σ H v u Q I r k
def Fo(X:Cx)(ifs:List Expr):TT:=λσ H Q=>∃t,kX X ifs t/\t σ H Q
theorem lA:kX X ifs (Fo X ifs):=λah s σ H Q I h=>let ⟨t,q,k⟩:=h;q ah s σ H Q I k
def Bg(X:Cx)(e:Expr):TE:=λσ H Q=>∃t,PE X e t/\t σ H Q
theorem oO:PE X e (Bg X e):=λah s σ H Q I h=>let ⟨t,q,k⟩:=h;q ah s σ H Q I k
theorem oR(hw:dZ X z tg iter g aj g1)(ht:∀b:Bk,iA (X.blk N' scope b) z tg T)(hT:∀i∈T.ix,g1.length<=i/\i<g1.length+k)
  (hcp:je T (g1.length+k) (λg b g'=>∀bk:Bk,cP (X.blk N' scope bk) z ifs g b g') (λg d g'=>∀bk:Bk,aD (X.blk N' scope bk) z bH g (.dat d) g') aj (gC k g1) gE) (hacc:gE[g1.length+k]?=some (.own acc)) :
  ∃wi,PI X tg iter wi/\∀σ As M H Q,S z g σ As M H->Kn z (gE.take g1.length) σ M H (.new acc) Q->ou X k wi (λb=>Fj (X.blk N' scope b) tg) (λb=>Fo (X.blk N' scope b) ifs) (λD b=>qA D (Bg (X.blk N' scope b) bH)) σ H Q:=by
 obtain⟨wi,q,kw⟩:=hw;refine⟨wi,q,λσ As M H Q s kq=>kw σ As M H _ s λJ H1 aO M1 s1 cI hJ D hD=>?_⟩
 have hl:g1.length=σ.length:=s1.sl.length;have hz:∀p∈z.lent,p.1<σ.length:=λp hp=>(b0.mp (s1.iT p hp).1).1
 have Rj:∀i∈T.ix,σ.length<=i:=λi hi=>by rw[<- hl];exact (hT i hi).1
 have cK:g1.length+k∉T.ix:=λh=>oD _ (hT _ h).2
 have s1':=s1.aQ (xs:=[]) hD;have h0:z.H0 D=none:=s1.bW hD;have nA:D∉aO:=λh=>s1.fresh hD (s1.sub D h)
 have sb:=s1'.extend (k:=k) (l:=[]) dA nA h0 aA .nil;have mG:(σ++(List.replicate k none++[some (V.ref D)]))[g1.length+k]?=some (some (V.ref D)):=by
  rw[hl,eA (rV _ _),kA,eA (by rw[gL];exact dS _),gL,BA]
  rfl
 refine⟨λi m σ' H'=>i+m=aj.length/\∃gb Ab Mb τ,S z gb σ' Ab Mb H'/\aq M1 H1 Mb H'/\σ'=σ++τ/\σ'[g1.length+k]?=some (some (.ref D))/\je T (g1.length+k) (λg b g'=>∀bk:Bk,cP (X.blk N' scope bk) z ifs g b g') (λg d g'=>∀bk:Bk,aD (X.blk N' scope bk) z bH g (.dat d) g') (aj.drop i) gb gE,
  ⟨aj.length,by lia,_,_,_,_,sb,aq.aQ hD,rfl,mG,hcp⟩,?_⟩
 rintro i m σ' H' ⟨W8,gb,Ab,Mb,τ,s2,aK,rfl,Bh,cp⟩;obtain⟨hgo,hstop⟩:=hJ Mb H' aK;cases e:aj[i]? with
 |none=>
  have hi:i=aj.length:=by have:=l7.mp e;lia
  subst hi;rw[AZ]at cp;cases cp;refine .inl ⟨hstop,?_⟩;obtain⟨a,xs,f1,f2,f3,f4⟩:=s2.sl.at hacc;rw[Bh]at f1;injection f1 with f1;injection f1 with f1;injection f1 with f1;subst f1;obtain⟨A1,s3,m3,n3⟩:=s2.shrink hz ⋯ hacc Bh;rw[<- hl]at s3;exact kq _ H' A1 Mb s3 (cI.trans aK) ⟨D,xs,rfl,m3,n3,h0,f3,f4⟩
 |some d=>
  obtain⟨go,yl⟩:=hgo i d e;rw[drop_cons e]at cp;have hi:i<aj.length:=(b0.mp e).1;refine .inr ⟨go,λσ' H'=>∃gb Ab Mb τ,S z gb σ' Ab Mb H'/\aq M1 H1 Mb H'/\σ'=σ++τ/\σ'[g1.length+k]?=some (some (.ref D))/\je T (g1.length+k) (λg b g'=>∀bk:Bk,cP (X.blk N' scope bk) z ifs g b g') (λg d g'=>∀bk:Bk,aD (X.blk N' scope bk) z bH g (.dat d) g') (aj.drop (i+1)) gb gE,
   λAu Av hN=>⟨m - 1,by lia,by lia,hN⟩,λx H2 hx bk _=>?_⟩
  obtain⟨s3,dU,rx⟩:=yl x H2 hx z gb (σ++τ) Ab rfl s2;obtain⟨t,qt,kt⟩:=ht bk;cases cp with
  |skip e0 hc rest=>
   refine⟨t,qt,kt d gb _ e0 x _ Ab Mb H2 _ s3 rx λσ4 jd s4 ag=>?_⟩
   obtain⟨τ',rfl⟩:=eU ag Rj;obtain⟨t2,q2,k2⟩:=hc bk;refine⟨t2,q2,k2 _ jd Mb H2 _ s4 λH5 zo M5 s5 jU=>?_⟩
   refine ng ⟨_,zo,M5,τ',s5,(aK.trans dU).trans jU,rfl,?_,rest⟩;rw[ag.2 _ cK];exact Bh
  |take e0 hc he ha hz' rest=>
   refine⟨t,qt,kt d gb _ e0 x _ Ab Mb H2 _ s3 rx λσ4 jd s4 ag=>?_⟩
   obtain⟨τ',rfl⟩:=eU ag Rj;obtain⟨t2,q2,k2⟩:=hc bk;obtain⟨t3,q3,k3⟩:=he bk;have Ks:(σ++τ')[g1.length+k]?=some (some (V.ref D)):=by rw[ag.2 _ cK];exact Bh
   refine⟨t2,q2,k2 _ jd Mb H2 _ s4 λH5 zo M5 s5 jU=>jw ⟨t3,q3,k3 _ zo M5 H5 _ s5 λv H6 Xa M6 s6 Rl R6=>?_⟩⟩
   obtain⟨a,xs,f1,f2,f3,f4⟩:=s6.sl.at ha;rw[Ks]at f1;injection f1 with f1;injection f1 with f1;injection f1 with f1;subst f1;obtain⟨s7,Xc⟩:=s6.write ha Ks (f4.append (.cons R6 .nil));refine⟨xs,f3,by rw[<- f4.length,nK];exact hz',_,Xa,M6,τ',s7,(((aK.trans dU).trans jU).trans Rl).trans Xc,rfl,Ks,rest⟩
theorem Ku(B:aM X.env.scope scope)(hc:X.calm=true)(hN:Names X.N N' scope k)(hw:dZ X z tg iter g aj g1)(ht:∀b:Bk,iA (X.blk N' scope b) z tg T)(hT:∀i∈T.ix,g1.length<=i/\i<g1.length+k)
  (hcp:je T (g1.length+k) (λg b g'=>∀bk:Bk,cP (X.blk N' scope bk) z ifs g b g') (λg d g'=>∀bk:Bk,aD (X.blk N' scope bk) z bH g (.dat d) g') aj (gC k g1) gE) (hacc:gE[g1.length+k]?=some (.own acc))
  (hs:∀x,foldedSetIterable iter X.env x=pure x):aD X z (.ListComp bH [⟨tg,iter,ifs,0⟩] scope pos) g (.new acc) (gE.take g1.length):=by
 obtain⟨wi,q,kk⟩:=oR hw ht hT hcp hacc;exact⟨_,yX B hc hN q (λb=>⟨lz,lA,oO⟩) hs,kk⟩
theorem Kv(B:aM X.env.scope scope)(hc:X.calm=true)(hN:Names X.N N' scope k)(hw:dZ X z tg iter g aj g1)(ht:∀b:Bk,iA (X.blk N' scope b) z tg T)(hT:∀i∈T.ix,g1.length<=i/\i<g1.length+k)
  (hcp:je T (g1.length+k) (λg b g'=>∀bk:Bk,cP (X.blk N' scope bk) z ifs g b g') (λg d g'=>∀bk:Bk,aD (X.blk N' scope bk) z bH g (.dat d) g') aj (gC k g1) gE) (hacc:gE[g1.length+k]?=some (.own acc))
  (Aw:X.N.Nodup) (hy:X.N[i]?=some y) (hl:X.env.scope.names.lookup y=some .local) (hb:i∉z.bor) (hi:i<(gE.take g1.length).length)
  (hsw:swapsWith (.ListComp bH [⟨tg,iter,ifs,0⟩] scope pos) (some (.Name y py)) bJ.line X.env=pure true)
  (hs:∀x,foldedSetIterable iter X.env x=pure x):fW X z (.Assign [.Name y py] (.ListComp bH [⟨tg,iter,ifs,0⟩] scope pos) bJ) g .nx ((gE.take g1.length).set i (.own acc)):=by
 obtain⟨wi,q,kk⟩:=oR hw ht hT hcp hacc;refine⟨_,yZ B hc hN q (λb=>⟨lz,lA,oO⟩) Aw hy hl hsw hs,λσ As M H E s kE=>kk σ As M H _ s λv H' aC M' s' st R=>?_⟩
 obtain⟨a,xs,rfl,hm,hA,h0,ha,rr⟩:=R;obtain⟨bw,s2⟩:=s'.oz hb hi hm hA h0 ha rr;exact kE _ bw M' H' s2 st
end
section
theorem aD.run(he:aD X z e g r g1)(I:L2.Inv X ah σ H s)(st:S z g σ As M H)
  (k:∀v u s1 H1 aO M1,L2.Inv X ah σ H1 s1->RelV v u->S z g1 σ aO M1 H1->aq M H M1 H1->cN z g1 σ aO M1 H1 r v->Post u s1):wpAny (model X.prog X.w) X.A (eval e X.env) Post X.xe s:=by
 obtain⟨t,q,kt⟩:=he;exact bL (q ah s σ H (λv H1=>∃aO M1,S z g1 σ aO M1 H1/\aq M H M1 H1/\cN z g1 σ aO M1 H1 r v) I (kt σ As M H _ st λv H1 aO M1 s1 cI R=>⟨aO,M1,s1,cI,R⟩)) λu s1 ⟨v,H1,I1,r1,aO,M1,q1,q2,q3⟩=>k v u s1 H1 aO M1 I1 r1 q1 q2 q3
theorem nh.run(ho:nh X z f d1 d2 r)(I:L2.Inv X ah σ H s)(st:S z g σ As M H)(p1:Pk z.K M H d1 v1)(p2:Pk z.K M H d2 v2)(r1:RelV v1 u1)(r2:RelV v2 u2)
  (k:∀v u s1 H1 aO M1,L2.Inv X ah σ H1 s1->RelV v u->S z g σ aO M1 H1->aq M H M1 H1->cN z g σ aO M1 H1 r v->Post u s1):wpAny (model X.prog X.w) X.A (f u1 u2) Post X.xe s:=by
 obtain⟨rr,o,ko⟩:=ho;exact bL (o ah s σ H v1 v2 u1 u2 (λv H1=>∃aO M1,S z g σ aO M1 H1/\aq M H M1 H1/\cN z g σ aO M1 H1 r v) I r1 r2 (ko g σ As M H v1 v2 _ st p1 p2 λv H1 aO M1 s1 cI R=>⟨aO,M1,s1,cI,R⟩)) λu s1 ⟨v,H1,I1,r1,aO,M1,q1,q2,q3⟩=>k v u s1 H1 aO M1 I1 r1 q1 q2 q3
theorem aD.of (h:∀(ah:List (Addr×Obj)) (s:Shared) (σ:Sg) (As M:List Addr) (H:Hp) (Post:Value->Shared->Prop),L2.Inv X ah σ H s->S z g σ As M H->
  (∀v u s1 H1 aO M1,L2.Inv X ah σ H1 s1->RelV v u->S z g1 σ aO M1 H1->aq M H M1 H1->cN z g1 σ aO M1 H1 r v->Post u s1)->wpAny (model X.prog X.w) X.A (eval e X.env) Post X.xe s):aD X z e g r g1:=
 ⟨λσ H Q=>∃As M,S z g σ As M H/\Kn z g1 σ M H r Q,λah s σ H Q I ⟨As,M,st,k⟩=>h ah s σ As M H _ I st λv u s1 H1 aO M1 I1 r1 q1 q2 q3=>⟨v,H1,I1,r1,k v H1 aO M1 q1 q2 q3⟩,λσ As M H Q s k=>⟨As,M,s,k⟩⟩
theorem cg.of (h:∀(ah:List (Addr×Obj)) (s:Shared) (σ:Sg) (As M:List Addr) (H:Hp) (Post:Bool->Shared->Prop),L2.Inv X ah σ H s->S z g σ As M H->
  (∀s1 H1 aO M1,L2.Inv X ah σ H1 s1->S z g1 σ aO M1 H1->aq M H M1 H1->Post b s1)->wpAny (model X.prog X.w) X.A (isTrue e X.env (eval e X.env)) Post X.xe s):cg X z e g b g1:=
 ⟨λσ H Q=>∃As M,S z g σ As M H/\(∀H' aC M',S z g1 σ aC M' H'->aq M H M' H'->Q b H'),λah s σ H Q I ⟨As,M,st,k⟩=>h ah s σ As M H _ I st λs1 H1 aO M1 I1 q1 q2=>⟨H1,I1,k H1 aO M1 q1 q2⟩,λσ As M H Q s k=>⟨As,M,s,k⟩⟩
inductive sP(X:Cx)(z:Z):D->List CmpOp->List Expr->G->Bool->G->Prop
 |last {d1 d2:D}{op:CmpOp}{b:Expr}{g g1:G}{c:Bool}:aD X z b g (.dat d2) g1->nh X z (compareOp op) d1 d2 (.dat (.bl c))->sP X z d1 [op] [b] g c g1
 |stop {d1 d2:D}{op op':CmpOp}{ops:List CmpOp}{b b':Expr}{bs:List Expr}{g g1:G}:aD X z b g (.dat d2) g1->nh X z (compareOp op) d1 d2 (.dat (.bl false))->sP X z d1 (op::op'::ops) (b::b'::bs) g false g1
 |link {d1 d2:D}{op op':CmpOp}{ops:List CmpOp}{b b':Expr}{bs:List Expr}{g g1 g2:G}{c:Bool}:aD X z b g (.dat d2) g1->nh X z (compareOp op) d1 d2 (.dat (.bl true))->sP X z d2 (op'::ops) (b'::bs) g1 c g2->sP X z d1 (op::op'::ops) (b::b'::bs) g c g2
theorem Rm(h:sP X z d1 ops bs g c g'):∀(ah:List (Addr×Obj)) (s:Shared) (σ:Sg) (H:Hp) (As M:List Addr) (Post:Value->Shared->Prop) (v1:V) (u1:Value),L2.Inv X ah σ H s->S z g σ As M H->Rep z.K M H d1 v1->RelV v1 u1->
  (∀s1 H' aC M',L2.Inv X ah σ H' s1->S z g' σ aC M' H'->aq M H M' H'->Post (.bool c) s1)->wpAny (model X.prog X.w) X.A (compareChain pos u1 ops (evalEach bs X.env)) Post X.xe s:=by
 induction h with
 |@last d1 d2 op b g g1 c he ho=>
  intro ah s σ H As M Post v1 u1 I st r rv k;show wpAny _ X.A (compareChain pos u1 [op] [eval b X.env]) _ _ s;refine chain_last (he.run I st λv u s1 H1 aO M1 I1 r1 q1 q2 q3=>ho.run I1 q1 (.of (r.stay q2)) (.of q3) rv r1 λv' u' s2 H2 bw M2 I2 r2 p1 p2 p3=>?_)
  rw[fD p3]at r2;cases r2;exact k s2 H2 bw M2 I2 p1 (q2.trans p2)
 |@stop d1 d2 op op' ops b b' bs g g1 he ho=>
  intro ah s σ H As M Post v1 u1 I st r rv k;show wpAny _ X.A (compareChain pos u1 (op::op'::ops) (eval b X.env::eval b' X.env::evalEach bs X.env)) _ _ s;refine chain_link (he.run I st λv u s1 H1 aO M1 I1 r1 q1 q2 q3=>ho.run I1 q1 (.of (r.stay q2)) (.of q3) rv r1 λv' u' s2 H2 bw M2 I2 r2 p1 p2 p3=>?_)
  rw[fD p3]at r2;cases r2;exact nS (ite_ff (k s2 H2 bw M2 I2 p1 (q2.trans p2)))
 |@link d1 d2 op op' ops b b' bs g g1 g2 c he ho hch ih=>
  intro ah s σ H As M Post v1 u1 I st r rv k;show wpAny _ X.A (compareChain pos u1 (op::op'::ops) (eval b X.env::eval b' X.env::evalEach bs X.env)) _ _ s;refine chain_link (he.run I st λv u s1 H1 aO M1 I1 r1 q1 q2 q3=>ho.run I1 q1 (.of (r.stay q2)) (.of q3) rv r1 λv' u' s2 H2 bw M2 I2 r2 p1 p2 p3=>?_)
  rw[fD p3]at r2;cases r2;exact nS (ite_tt (ih ah s2 σ H2 bw M2 Post v u I2 p1 (Rep.stay p2 q3) r1 λs3 H3 mF M3 I3 w1 w2=>k s3 H3 mF M3 I3 w1 ((q2.trans p2).trans w2)))
theorem Kw(h:sP X z d1 ops bs g c g'):∀(ah:List (Addr×Obj)) (s:Shared) (σ:Sg) (H:Hp) (As M:List Addr) (Post:Bool->Shared->Prop) (v1:V) (u1:Value),L2.Inv X ah σ H s->S z g σ As M H->Rep z.K M H d1 v1->RelV v1 u1->
  (∀s1 H' aC M',L2.Inv X ah σ H' s1->S z g' σ aC M' H'->aq M H M' H'->Post c s1)->wpAny (model X.prog X.w) X.A (testChain pos u1 ops (evalEach bs X.env)) Post X.xe s:=by
 induction h with
 |@last d1 d2 op b g g1 c he ho=>
  intro ah s σ H As M Post v1 u1 I st r rv k;show wpAny _ X.A (testChain pos u1 [op] [eval b X.env]) _ _ s;refine test_last (he.run I st λv u s1 H1 aO M1 I1 r1 q1 q2 q3=>ho.run I1 q1 (.of (r.stay q2)) (.of q3) rv r1 λv' u' s2 H2 bw M2 I2 r2 p1 p2 p3=>?_)
  rw[fD p3]at r2;cases r2;exact nS (k s2 H2 bw M2 I2 p1 (q2.trans p2))
 |@stop d1 d2 op op' ops b b' bs g g1 he ho=>
  intro ah s σ H As M Post v1 u1 I st r rv k;show wpAny _ X.A (testChain pos u1 (op::op'::ops) (eval b X.env::eval b' X.env::evalEach bs X.env)) _ _ s;refine test_link (he.run I st λv u s1 H1 aO M1 I1 r1 q1 q2 q3=>ho.run I1 q1 (.of (r.stay q2)) (.of q3) rv r1 λv' u' s2 H2 bw M2 I2 r2 p1 p2 p3=>?_)
  rw[fD p3]at r2;cases r2;exact nS (ite_ff (k s2 H2 bw M2 I2 p1 (q2.trans p2)))
 |@link d1 d2 op op' ops b b' bs g g1 g2 c he ho hch ih=>
  intro ah s σ H As M Post v1 u1 I st r rv k;show wpAny _ X.A (testChain pos u1 (op::op'::ops) (eval b X.env::eval b' X.env::evalEach bs X.env)) _ _ s;refine test_link (he.run I st λv u s1 H1 aO M1 I1 r1 q1 q2 q3=>ho.run I1 q1 (.of (r.stay q2)) (.of q3) rv r1 λv' u' s2 H2 bw M2 I2 r2 p1 p2 p3=>?_)
  rw[fD p3]at r2;cases r2;exact nS (ite_tt (ih ah s2 σ H2 bw M2 Post v u I2 p1 (Rep.stay p2 q3) r1 λs3 H3 mF M3 I3 w1 w2=>k s3 H3 mF M3 I3 w1 ((q2.trans p2).trans w2)))
theorem Fp(ha:aD X z a g (.dat d1) g1)(h:sP X z d1 (Ky::Kz::ops) (b1::b2::bs) g1 c g2)(hm:lastMarks (Ky::Kz::ops) (b1::b2::bs)=false):aD X z (.Compare a (Ky::Kz::ops) (b1::b2::bs) pos) g (.dat (.bl c)) g2:=
 aD.of λah s σ As M H Post I st k=>Compare_chain (ha.run I st λv u s1 H1 aO M1 I1 r1 q1 q2 q3=>Rm h ah s1 σ H1 aO M1 Post v u I1 q1 q3 r1 λs2 H2 bw M2 I2 p1 p2=>k (.bl c) (.bool c) s2 H2 bw M2 I2 rfl p1 (q2.trans p2) (.bl c)) hm
theorem Fq(ha:aD X z a g (.dat d1) g1)(h:sP X z d1 (Ky::Kz::ops) (b1::b2::bs) g1 c g2)(hm:lastMarks (Ky::Kz::ops) (b1::b2::bs)=false):cg X z (.Compare a (Ky::Kz::ops) (b1::b2::bs) pos) g c g2:=
 cg.of λah s σ As M H Post I st k=>isTrue_chain (ha.run I st λv u s1 H1 aO M1 I1 r1 q1 q2 q3=>Kw h ah s1 σ H1 aO M1 Post v u I1 q1 q3 r1 λs2 H2 bw M2 I2 p1 p2=>k s2 H2 bw M2 I2 p1 (q2.trans p2)) hm
inductive nj(X:Cx)(z:Z)(c:Expr)(body:List Stmt):Nat->G->Fl->G->Prop
 |done {n:Nat}{g g1:G}:cg X z c g false g1->nj X z c body n g .nx g1
 |next {n:Nat}{g g1 g2 g3:G}{f:Fl}:cg X z c g true g1->dY X z body g1 .nx g2->nj X z c body n g2 f g3->nj X z c body (n+1) g f g3
 |cont {n:Nat}{g g1 g2 g3:G}{f:Fl}:cg X z c g true g1->dY X z body g1 .ct g2->nj X z c body n g2 f g3->nj X z c body (n+1) g f g3
 |brk {n:Nat}{g g1 g2:G}:cg X z c g true g1->dY X z body g1 .bk g2->nj X z c body n g .nx g2
 |ret {n:Nat}{g g1 g2:G}{r:R}:cg X z c g true g1->dY X z body g1 (.rt r) g2->nj X z c body n g (.rt r) g2
def Xd(X:Cx)(e:Expr):TT:=λσ H Q=>∃t,PT X e t/\t σ H Q
theorem Ro{e:Expr}:PT X e (Xd X e):=λah s σ H Q I h=>let ⟨t,q,k⟩:=h;q ah s σ H Q I k
theorem Ft{ce:Expr}{body:List Stmt}{n:Nat}{f:Fl}{g':G}(hp:PassesOwn (model X.prog X.w) X.A X.env X.xe)(h:nj X z ce body n g f g'):fW X z (.While ce body [] pos) g f g':=by
 refine⟨_,DS hp Ro zc,λσ As M H E s k=>?_⟩
 refine⟨λm σ2 H2=>∃g2 bw M2,S z g2 σ2 bw M2 H2/\aq M H M2 H2/\nj X z ce body m g2 f g',⟨n,g,As,M,s,aq.refl _ _,h⟩,?_⟩
 rintro m σ2 H2 ⟨g2,bw,M2,s2,aK,w⟩;cases w with
 |done hc=>obtain⟨t,q,kt⟩:=hc;exact⟨t,q,kt σ2 bw M2 H2 _ s2 λH3 mF M3 s3 dU=>ng (k σ2 mF M3 H3 s3 (aK.trans dU))⟩
 |@next m' _ g3 g4 _ _ hc hb w'=>
  obtain⟨t,q,kt⟩:=hc;obtain⟨tb,qb,kb⟩:=hb;refine⟨t,q,kt σ2 bw M2 H2 _ s2 λH3 mF M3 s3 dU=>jw ⟨λσ' H'=>∃g2 bw M2,S z g2 σ' bw M2 H'/\aq M H M2 H'/\nj X z ce body m' g2 f g',λσ' H' hN=>⟨m',y0 _,hN⟩,tb,qb,kb σ2 mF M3 H3 _ s3 λσ4 jd M4 H4 s4 oN=>?_⟩⟩
  exact⟨g4,jd,M4,s4,(aK.trans dU).trans oN,w'⟩
 |@cont m' _ g3 g4 _ _ hc hb w'=>
  obtain⟨t,q,kt⟩:=hc;obtain⟨tb,qb,kb⟩:=hb;refine⟨t,q,kt σ2 bw M2 H2 _ s2 λH3 mF M3 s3 dU=>jw ⟨λσ' H'=>∃g2 bw M2,S z g2 σ' bw M2 H'/\aq M H M2 H'/\nj X z ce body m' g2 f g',λσ' H' hN=>⟨m',y0 _,hN⟩,tb,qb,kb σ2 mF M3 H3 _ s3 λσ4 jd M4 H4 s4 oN=>?_⟩⟩
  exact⟨g4,jd,M4,s4,(aK.trans dU).trans oN,w'⟩
 |brk hc hb=>obtain⟨t,q,kt⟩:=hc;obtain⟨tb,qb,kb⟩:=hb;exact⟨t,q,kt σ2 bw M2 H2 _ s2 λH3 mF M3 s3 dU=>jw ⟨λ_ _=>False,λσ' H' hN=>hN.elim,tb,qb,kb σ2 mF M3 H3 _ s3 λσ4 jd M4 H4 s4 oN=>k σ4 jd M4 H4 s4 ((aK.trans dU).trans oN)⟩⟩
 |ret hc hb=>obtain⟨t,q,kt⟩:=hc;obtain⟨tb,qb,kb⟩:=hb;exact⟨t,q,kt σ2 bw M2 H2 _ s2 λH3 mF M3 s3 dU=>jw ⟨λ_ _=>False,λσ' H' hN=>hN.elim,tb,qb,kb σ2 mF M3 H3 _ s3 λv σ4 jd M4 H4 s4 oN R=>k v σ4 jd M4 H4 s4 ((aK.trans dU).trans oN) R⟩⟩
noncomputable def KC:D->Option Bool
 |.bl b=>some b
 |.non=>some false
 |.int i=>some (i != 0)
 |.lst l=>some (!l.isEmpty)
 |.tup l=>some (!l.isEmpty)
 |.fix l=>some (!l.isEmpty)
 |_=>none
end
end Ev
namespace HT
section
theorem jf{t sl:Addr}{aj:Array Value}{vl vu:Value}{lo hi:Option Int}{Q:Value->Shared->Prop}(ht:IsTup s.heap t aj)(hs:s.heap.IsSliceOf sl vl vu .none)(pl:IsPart vl lo)(pu:IsPart vu hi)
  (hw:bR aj.size 0 lo=0/\bR aj.size aj.size hi=aj.size)
  (h:Q (.ref t) s):wpAny (model prog w) A (getItem (.ref t) (.ref sl)) Q E s:=by
 obtain⟨os,hos,hcs,hds⟩:=id hs;have Ww:s.TypeIs (.ref sl) "slice" :=⟨os,hos,hcs⟩;unfold getItem
 try with_reducible refine mM ?_
 first |refine aS (dE ?_) |skip
 refine aS (wpAny_sequenceKey ht.typeIs ⋯ ?_);refine aS (o6 (name:=Str.ofString "__getitem__") ht.typeIs nV
  (tS nV ht.typeIs entry_tuple_getitem ?_ (args_tuple_getitem _ _)))
 show wpAny _ _ (Builtin.Tuple.tupleItemsOf (.ref t) >>= _) _ _ s;refine aS (tupleItemsOf_ ht ?_);refine aS (CF Ww ?_);rw[fN ⋯];refine aS (fT hs pl pu ?_);have hyes:(((bR aj.size 0 lo:Nat):Int)==0&&(1:Int)==1&&(bR aj.size aj.size hi - bR aj.size 0 lo)==aj.size)=true:=by rw[hw.1,hw.2];simp
 show wpAny _ _ (if (((bR aj.size 0 lo:Nat):Int)==0&&(1:Int)==1&&(bR aj.size aj.size hi - bR aj.size 0 lo)==aj.size)=true then _ else _) _ _ s
 rw[fN hyes];refine aS (m:=Builtin.Tuple.tupleIsExact _) (aS (CF ht.typeIs (dE ?_)));rw[fN ⋯];exact aS (CO (dE ⟨_,rfl,dE h⟩))
end
end HT
namespace Ev
open L2
def oU{α:Type}(xs:List α)(lo hi:Option Int):List α:=(xs.drop (HT.bR xs.length 0 lo)).take (HT.bR xs.length xs.length hi - HT.bR xs.length 0 lo)
theorem xA{α:Type}{xs:List α}{lo hi:Option Int}(h:HT.bR xs.length 0 lo=0/\HT.bR xs.length xs.length hi=xs.length):oU xs lo hi=xs:=by unfold oU;rw[h.1,h.2,List.drop_zero,Nat.sub_zero,List.take_length]
section
variable{lo hi:Option Expr}
def rSlA(K:Frag):V->Option Int->Option Int->Hp->VK->Prop:=λx lo hi H Q=>∃a xs,x=.ref a/\g7 K H a xs/\
 ((HT.bR xs.length 0 lo=0/\HT.bR xs.length xs.length hi=xs.length/\Q (.ref a) H)\/(¬ (HT.bR xs.length 0 lo=0/\HT.bR xs.length xs.length hi=xs.length)/\∀p,H p=none->Q (.ref p) (upd H p (.tup (sD xs lo hi)))))
theorem KD:Zq X (rSlA X.K):=by
 intro ah s σ H x v vl vu lo hi sl Q I rx hs pl pu h;obtain⟨a,xs,rfl,hx,h⟩:=h;rcases h with ⟨h1,h2,q⟩ |⟨h1,q⟩
 .
  cases rx;obtain⟨its,r,ht,hz⟩:=I.tuple hx;have aL:its.toArray.size=xs.length:=by rw[dC];exact r.length.symm
  refine⟨"tuple",_,PyProof.Rows.slot_tuple_getitem.lookup,ht.typeIs,?_⟩;exact HT.jf ht hs pl pu (by rw[aL];exact⟨h1,h2⟩) ⟨.ref a,H,I,rfl,q⟩
 . exact P8 ah s σ H (.ref a) v vl vu lo hi sl Q I rx hs pl pu ⟨a,xs,rfl,hx,h1,q⟩
def sQ(X:Cx)(z:Z)(e:Option Expr)(g:G)(o:Option Int)(g':G):Prop:=
 ∃t,PO X e t/\∀σ As M H (Q:Option Int->Hp->Prop),S z g σ As M H->(∀H' aC M',S z g' σ aC M' H'->aq M H M' H'->Q o H')->t σ H Q
theorem Bj:sQ X z none g none g:=⟨_,JL,λσ As M H Q s k=>k H As M s (aq.refl _ _)⟩
theorem Bm(h:aD X z e g (.dat (.int i)) g1):sQ X z (some e) g (some i) g1:=by
 obtain⟨t,q,k⟩:=h;refine⟨_,JM q,λσ As M H Q s kk=>k σ As M H _ s λv H' aC M' s' st R=>?_⟩
 have R':Rep z.K M' H' (.int i) v:=R;cases R';exact⟨i,rfl,kk H' aC M' s' st⟩
theorem aI.cut{K:Frag}{M:List Addr}{H:Hp}{ds:List D}{vs:List V}(r:aI K M H ds vs)(l u:Option Int):aI K M H (oU ds l u) (sD vs l u):=by unfold oU sD;rw[r.length];exact aI.take _ (aI.drop _ r)
theorem Bo{r:R}{l:List D}{d:D}{i j:Option Int}(hK:z.K=X.K)(h:aD X z a g r g1)(h1:sQ X z lo g1 i g2)(h2:sQ X z hi g2 j g3)(hp:pk r g3=some (.lst l)):aD X z (.Subscript a (.Slice lo hi none p2) pos) g (.new (oU l i j)) g3:=by
 obtain⟨t,q,k⟩:=h;obtain⟨t1,q1,k1⟩:=h1;obtain⟨t2,q2,k2⟩:=h2;refine⟨_,n9 yW q q1 q2,λσ As M H Q s kk=>k σ As M H _ s λv H1 aO M1 s1 cI R=>k1 σ aO M1 H1 _ s1 λH2 bw M2 s2 aK=>k2 σ bw M2 H2 _ s2 λH3 mF M3 s3 dU=>?_⟩
 obtain⟨b,xs,rfl,e1,e2⟩:=(s3.pk (aK.trans dU) R hp).list;refine⟨b,xs,rfl,bZ.of e1,λp hp=>?_⟩
 exact kk _ _ mF (p::M3) (s3.aQ hp) (((cI.trans aK).trans dU).trans (aq.aQ hp)) ⟨p,_,rfl,dA,λhA=>s3.fresh hp (s3.sub p hA),s3.bW hp,aA,(e2.cut i j).stay (aq.aQ hp)⟩
theorem Bp(hK:z.K=X.K)(h:aD X z a g (.dat (.fix l)) g1)(h1:sQ X z lo g1 i g2)(h2:sQ X z hi g2 j g3):aD X z (.Subscript a (.Slice lo hi none p2) pos) g (.new (oU l i j)) g3:=by
 obtain⟨t,q,k⟩:=h;obtain⟨t1,q1,k1⟩:=h1;obtain⟨t2,q2,k2⟩:=h2;refine⟨_,n9 yW q q1 q2,λσ As M H Q s kk=>k σ As M H _ s λv H1 aO M1 s1 cI R=>k1 σ aO M1 H1 _ s1 λH2 bw M2 s2 aK=>k2 σ bw M2 H2 _ s2 λH3 mF M3 s3 dU=>?_⟩
 have R':Rep z.K M3 H3 (.fix l) v:=Rep.stay (aK.trans dU) R;cases R' with
 |@fix _ b xs e1 e2=>
  refine⟨b,xs,rfl,hK▸e1.sq,λp hp=>?_⟩
  exact kk _ _ mF (p::M3) (s3.aQ hp) (((cI.trans aK).trans dU).trans (aq.aQ hp)) ⟨p,_,rfl,dA,λhA=>s3.fresh hp (s3.sub p hA),s3.bW hp,aA,(e2.cut i j).stay (aq.aQ hp)⟩
theorem Bq(hK:z.K=X.K)(h:aD X z a g (.dat (.tup l)) g1)(h1:sQ X z lo g1 i g2)(h2:sQ X z hi g2 j g3):aD X z (.Subscript a (.Slice lo hi none p2) pos) g (.dat (.tup (oU l i j))) g3:=by
 obtain⟨t,q,k⟩:=h;obtain⟨t1,q1,k1⟩:=h1;obtain⟨t2,q2,k2⟩:=h2;refine⟨_,n9 KD q q1 q2,λσ As M H Q s kk=>k σ As M H _ s λv H1 aO M1 s1 cI R=>k1 σ aO M1 H1 _ s1 λH2 bw M2 s2 aK=>k2 σ bw M2 H2 _ s2 λH3 mF M3 s3 dU=>?_⟩
 have R':Rep z.K M3 H3 (.tup l) v:=Rep.stay (aK.trans dU) R;cases R' with
 |@tup _ b xs e1 e2=>
  refine⟨b,xs,rfl,hK▸e1.sq,?_⟩;by_cases hw:HT.bR xs.length 0 i=0/\HT.bR xs.length xs.length j=xs.length
  .
   refine .inl ⟨hw.1,hw.2,kk _ _ mF M3 s3 ((cI.trans aK).trans dU) ?_⟩;have e:oU l i j=l:=xA (by rw[e2.length];exact hw)
   rw[e];exact .tup e1 e2
  . exact .inr ⟨hw,λp hp=>kk _ _ mF M3 (s3.laid hp) (((cI.trans aK).trans dU).trans (aq.laid hp)) (.tup (.inl ⟨s3.fresh hp,.inl aA⟩) ((e2.cut i j).stay (aq.laid hp)))⟩
theorem Fv(hK:z.K=X.K)(h:aD X z e g r g1)(hp:pk r g1=some d)(hb:KC d=some b)(he:∀whole,isTrue e X.env whole=(do let v <- whole;standAt e.pos;holding [v] (truthy v))):cg X z e g b g1:=by
 obtain⟨t,q,k⟩:=h;refine⟨_,DX q he,λσ As M H Q s kk=>k σ As M H _ s λv H1 aO M1 s1 cI R=>⟨b,?_,kk H1 aO M1 s1 cI⟩⟩
 have p:=s1.pk (aq.refl _ _) R hp;cases d with
 |non=>rw[p.non];cases hb;rfl
 |bl c=>rw[p.bl];cases hb;rfl
 |int i=>rw[p.int];cases hb;rfl
 |str x=>cases hb
 |emp=>cases hb
 |mz _=>cases hb
 |lst l=>obtain⟨a,xs,rfl,e1,e2⟩:=p.list;cases hb;refine .inl ⟨xs,bZ.of e1,?_⟩;cases e2 <;> rfl
 |tup l=>obtain⟨a,xs,rfl,e1,e2⟩:=p.tup;cases hb;refine .inr (.inl ⟨xs,hK▸e1.sq,?_⟩);cases e2 <;> rfl
 |fix l=>obtain⟨a,xs,rfl,e1,e2⟩:=p.fix;cases hb;refine .inl ⟨xs,hK▸e1.sq,?_⟩;cases e2 <;> rfl
end
section
theorem Rp(I:L2.Inv X ah σ H s)(p:Pk X.K M H d v)(r:RelV v u):∃Hh,PySem.W.KitX X.K u (Dp d) Hh/\Hh s.heap/\u≠.builtin "__main__.__loader__#opaque" :=by
 cases d with
 |non=>have q:=p.non;subst q;cases r;exact⟨_,PySem.W.kitx_none,True.intro,λz=>nomatch z⟩
 |bl y=>have q:=p.bl;subst q;cases r;exact⟨_,PySem.W.kitx_bool,True.intro,λz=>nomatch z⟩
 |int i=>have q:=p.int;subst q;obtain⟨t,rfl⟩:=r;exact⟨_,PySem.W.kitx_int,True.intro,λz=>nomatch z⟩
 |str y=>have q:=p.str;subst q;obtain⟨t,rfl⟩:=r;exact⟨_,PySem.W.kitx_str,True.intro,λz=>nomatch z⟩
 |tup l=>obtain⟨a,xs,rfl,ha,_⟩:=p.tup;cases r;obtain⟨its,_,⟨o,h1,h2,_⟩,_⟩:=I.tuple ha.sq;exact⟨_,PySem.W.kitx_tuple,⟨o,h1,h2⟩,λz=>nomatch z⟩
 |lst l=>obtain⟨a,xs,rfl,ha,_⟩:=p.list;cases r;obtain⟨its,_,pl,_⟩:=I.list (bZ.of ha);obtain⟨o,h1,h2,_⟩:=pl.isList;exact⟨_,BU,⟨o,h1,h2⟩,λz=>nomatch z⟩
 |fix l=>obtain⟨a,xs,rfl,ha,_⟩:=p.fix;cases r;obtain⟨its,_,pl,_⟩:=I.list ha.sq;obtain⟨o,h1,h2,_⟩:=pl.isList;exact⟨_,BU,⟨o,h1,h2⟩,λz=>nomatch z⟩
 |emp=>
  cases p with
  |of q=>
   cases q with
   |emp _ ha=>cases r;obtain⟨_,_,vs,_,o,es,ep,h1,h2,_⟩:=I.hok _ _ ha;exact⟨_,PySem.W.kitx_dict,⟨o,h1,h2.1⟩,λz=>nomatch z⟩
 |mz C=>
  cases p with
  |of q=>
   cases q with
   |mz k _ ha=>cases r;obtain⟨⟨o,h1,h2,h3,h4⟩,_⟩:=I.hok _ _ ha;exact⟨_,uR k,⟨o,h1,h2,h3,by rw[h4];trivial⟩,λz=>nomatch z⟩
theorem zp:∀{ns:List String}{us:List Value},Vals (ns.map V.ty) us->us=ns.map Value.type
 | [],_,r=>by rw[List.map_nil]at r;cases r;rfl
 |n::ns,_,r=>by
  rw[List.map_cons]at r;cases r with
  |cons r1 r2=>cases r1;rw[zp r2];rfl
theorem Br:fC X (.builtin "isinstance") (λxs H Q=>∃(x:V) (p:Addr) (ns:List String) (M:List Addr) (d:D) (b:Bool),xs=[x,.ref p]/\Pk X.K M H d x/\g7 X.K H p (ns.map V.ty)/\PySem.W.kitAny X.K (Dp d) (ns.map Value.type)=some b/\Q (.bl b) H):=by intro ah s σ H xs us Q I r h;obtain⟨x,p,ns,M,d,b,rfl,pk,hp,e,q⟩:=h;obtain⟨u,w',rfl,r1,r2⟩:=vals2 r;cases r2;obtain⟨Hh,Zk,hH,hx⟩:=Rp I pk r1;obtain⟨its,rv,⟨o,h1,h2,n,h3⟩,_⟩:=I.tuple hp;rw[zp rv]at h3;obtain⟨c,dd,dt,sl⟩:=o;have h2':c=.type "tuple" :=h2;have h3':dt=.seq (ns.map Value.type).toArray n:=h3;subst h2' h3';exact PySem.W.kia_tup Zk I.nB hH h1 e hx λtk=>⟨.bl b,H,I.tok tk,rfl,q⟩
structure TyOk(X:Cx)(T:Str)(n:String):Prop where
 gl:Gl X T
 mg:X.mg T=none
 bt:bootBuiltins T=some (.type n)
 nn:T≠ "__name__"
 db:(T==("__debug__":Str))=false
inductive oV(X:Cx):List Expr->List String->Prop
 |nil:oV X [] []
 |cons {T:Str}{n:String}{p:Pos}{es:List Expr}{ns:List String}:TyOk X T n->oV X es ns->oV X (.Name T p::es) (n::ns)
theorem oV.pa(h:oV X es ns):∃t,PA X es t/\∀σ H (Q:List V->Hp->Prop),Q (ns.map V.ty) H->t σ H Q:=by
 induction h with
 |nil=>exact⟨_,dW,λσ H Q q=>q⟩
 |@cons T n p es ns h _ ih=>obtain⟨t,q,k⟩:=ih;have pT:PE X (.Name T p) (tC (.ty n)):=sf h.gl h.mg h.bt rfl h.nn h.db;exact⟨_,bC pT q rfl,λσ H Q hq=>k σ H _ hq⟩
theorem KH(hK:z.K=X.K)(h:aD X z a g r1 g1)(hp:pk r1 g1=some d)(ht:oV X es ns)(hl:ns.length<=16777216)(he:∀M H v,Pk X.K M H d v->PySem.W.kitAny X.K (Dp d) (ns.map Value.type)=some b)
  (hg:Gl X "isinstance") (hm:X.mg "isinstance"=none) (hv:bootBuiltins "isinstance"=some (.builtin "isinstance"))
  (hs:starEach [a,.Tuple es k pT] X.env=(false,eval a X.env)::starEach [.Tuple es k pT] X.env):aD X z (.Call (.Name "isinstance" p) [a,.Tuple es k pT] [] pos) g (.dat (.bl b)) g1:=by
 obtain⟨t,q,kk⟩:=h;obtain⟨tt,qt,kt⟩:=ht.pa;refine⟨_,jV Br hg hm hv (bC q (bC (Ea qt) dW) hs) ⋯ ⋯ hs,λσ As M H Q s kq=>kk σ As M H _ s λv H' aC M' s' st R=>kt σ H' _ ⟨by rw[fR];exact oB hl,λa ha=>?_⟩⟩
 have s2:=s'.laid (o:=.tup (ns.map V.ty)) ha;have pp:=s'.pk (aq.refl _ _) R hp;refine⟨v,a,ns,M',d,b,rfl,?_,.inl (.inl aA),he _ _ _ (hK▸pp),kq _ _ aC M' s2 (st.trans (aq.laid ha)) (.bl b)⟩;rw[<- hK];cases pp with
 |of r=>exact .of (r.stay (aq.laid ha))
 |lst e1 e2=>exact .lst (by rw[az (aJ e1 ha)];exact e1) (e2.stay (aq.laid ha))
theorem Bs(hN:X.N[i]?=some x)(hv:gR X.env.scope x)(hd:(x==("__debug__":Str))=false)(bE:(x==("__classdict__":Str))=false)(hg:g[i]?=some (.own l0))(h:cO X z [e] g [.dat (.lst m)] g1)(xu:g1[i]?=some (.own l))(hl:l.length+m.length<=16777216)
  (hbase:attributeBase (.Name x pn) "extend" X.env (eval (.Name x pn) X.env)=eval (.Name x pn) X.env)
  (hfew:((backTo aR (starEach [e] X.env)).all (λx=>!x.1)&&(backToKw aR (keywordEach [] X.env)).all (λx=>x.1.isSome)
   && decide ([e].length+([]:List Keyword).length+(if ([]:List Keyword).isEmpty then 0 else 1)<30))=true)
  (hline:(bG.endLine==aR.line)=true) (hs:starEach [e] X.env=(false,eval e X.env)::starEach [] X.env):aD X z (.Call (.Attribute (.Name x pn) "extend" bG) [e] [] aR) g (.dat .non) (g1.set i (.own (l++m))):=by
 obtain⟨t,q,k⟩:=h;refine⟨_,uL wT PySem.F.slot_list_extend PySem.F.type_list_extend Ao (bM hN hv hd bE) q hbase hfew hline hs rfl,λσ As M H Q s kk=>?_⟩
 obtain⟨a,xs,e1,e2,e3,e4⟩:=s.sl.at hg;refine⟨.ref a,e1,.inl ⟨rfl,xs,bZ.of e3⟩,k σ As M H _ s λvs H' aC M' s' st R=>?_⟩
 obtain⟨b,ys,f1,f2,f3,f4⟩:=s'.sl.at xu;rw[e1]at f1;injection f1 with f1;injection f1 with f1;injection f1 with f1;subst f1;cases R with
 |dat r R=>
  cases R;cases r with
  |@lst _ c zs hc rr=>
   refine⟨a,c,ys,zs,rfl,rfl,f3,hc.2,by rw[<- f4.length,<- rr.length,nK];exact hl,?_⟩
   obtain⟨s2,aK⟩:=s'.write xu e1 (f4.append rr);exact kk _ _ aC M' s2 (st.trans aK) .non
end
noncomputable def ins(a:Int):List Int->List Int
 | []=>[a]
 |b::l=>if a<=b then a::b::l else b::ins a l
def cZ:List Int->List Int
 | []=>[]
 |a::l=>ins a (cZ l)
theorem oW(a:Int):∀l:List Int,(ins a l).Perm (a::l)
 | []=>x0 _
 |b::l=>by
  unfold ins;split
  . exact x0 _
  . exact ((oW a l).cons b).trans (List.Perm.swap a b l)
theorem dB:∀l:List Int,(cZ l).Perm l
 | []=>x0 _
 |a::l=>(oW a _).trans ((dB l).cons a)
theorem oX(a:Int):∀{l:List Int},l.Pairwise (· <= ·)->(ins a l).Pairwise (· <= ·)
 | [],_=>List.pairwise_singleton _ _
 |b::l,h=>by
  obtain⟨h1,h2⟩:=y7.mp h;unfold ins;split
  .
   rename_i hab;refine y7.mpr ⟨λx hx=>?_,h⟩
   rcases d6.mp hx with rfl |hx
   . exact hab
   . exact Int.le_trans hab (h1 x hx)
  .
   rename_i hab;refine y7.mpr ⟨λx hx=>?_,oX a h2⟩
   rcases d6.mp ((oW a l).mem_iff.mp hx)with rfl |hx
   . lia
   . exact h1 x hx
theorem j7:∀l:List Int,(cZ l).Pairwise (· <= ·)
 | []=>List.Pairwise.nil
 |a::l=>oX a (j7 l)
theorem oY(hp:m.Perm l)(hs:m.Pairwise (· <= ·)):m=cZ l:=
 (hp.trans (dB l).symm).eq_of_pairwise (λx y _ _ h1 h2=>Int.le_antisymm h1 h2) hs (j7 l)
section
theorem jl(hl:IsTup s.heap l vs.toArray)
  (h:Q vs { s with heap:=(s.heap.push (seqObj "list" #[] 0)).update s⁻¹ (Obj.mapSeq (· ++ vs.toArray))}) (jk:vs.length<=sizeLine) :
  wpAny (model prog w) A (collect (.ref l)) Q E s:=by
 obtain⟨o,ho,hc,n,hd⟩:=id hl;unfold collect;refine aS (wpAny_runValue (codeAny_builtin entry_proto_collect' ?_));show wpAny _ _ (do again (.builtin "list.__iadd__" ⟨[<- newList [],.ref l],[]⟩)) _ _ s
 refine aS (B6 (dE ⟨Code.quiet_builtin _ (by decide +kernel),codeAny_builtin entry_list_iadd' ?_⟩))
 show wpAny _ _ (Builtin.List.listExtendWith (.ref s⁻¹) (.ref l) (.ref s⁻¹)) _ _ { s with heap:=s.heap.push (seqObj "list" #[] 0)};unfold Builtin.List.listExtendWith;have ho':(s.heap.push (seqObj "list" #[] 0)).get? l=some o:=bP _ ho;refine aS (CF (T:= "tuple") ⟨o,ho',hc⟩ ?_);have ht:(Value.type "tuple" == Value.type "tuple")=true:=by rfl
 rw[fN (by rw[ht];simp)]
 refine aS (listItems_at ho' hd ?_);refine aS (listItems_at (xs:=#[]) (n:=0) (eJ _ rfl) rfl ?_);rw[gN ⋯];refine aS (listUpdate_at (xs:=#[]) (n:=0) (eJ _ rfl) rfl ?_ (Ap _) (by show (#[]++vs.toArray).size<=sizeLine+1;simp only[Array.size_append,dC,AO];lia))
 refine dE ?_;show wpAny (model prog w) A (do
   let o <- load s⁻¹
   match o.data with
   |.seq xs _=>pure xs.toList
   |_=>unsupported "internal:collect") Q E { s with heap:=(s.heap.push (seqObj "list" #[] 0)).update s⁻¹ (Obj.mapSeq (· ++ vs.toArray))}
 refine aS (wpAny_load (get?_update_seq (eJ _ rfl) _) ?_);show wpAny _ _ (pure ((#[]:Array Value)++vs.toArray).toList) Q E _;rw[show ((#[]:Array Value)++vs.toArray).toList=vs by simp]
 exact dE h
theorem sS(hl:IsTup s.heap l vs.toArray)(hI:IntsAre vs ns)(h64:vs.length<64)
  (h:∀(out:Array Value) (ns':List Int),IntsAre out.toList ns'->ns'.Perm ns->ns'.Pairwise (· <= ·)->Q (.ref (s⁻¹+1)) { s with heap:=sortedAll s.heap vs out}) :
  wpAny (model prog w) A (call (.builtin "sorted") [.ref l]) Q E s:=by
 refine Calls.call_function_entry kind_sorted plain_sorted entry_sorted (args_sorted1 _) ?_;unfold Builtin.«sorted»;refine aS (m:=checkCount "sorted" 1 1 _) (dE ?_);refine aS (jl hl ?_ (by rw[nK];lia))
 refine aS (B6 ?_);have jk:((s.heap.push (seqObj "list" #[] 0)).update s⁻¹ (Obj.mapSeq (· ++ vs.toArray))).objs.size=s⁻¹+1:=by rw[A4,size_push']
 have Zi:(((s.heap.push (seqObj "list" #[] 0)).update s⁻¹ (Obj.mapSeq (· ++ vs.toArray))).push (seqObj "list" vs.toArray 0)).get? (s⁻¹+1)=some (seqObj "list" vs.toArray 0):=by rw[<- jk];exact eJ _ rfl
 show wpAny _ _ _ _ _ { s with heap:=((s.heap.push (seqObj "list" #[] 0)).update s⁻¹ (Obj.mapSeq (· ++ vs.toArray))).push (seqObj "list" vs.toArray 0)};rw[jk];refine aS (mM (tS slot_list_sort ⟨_,Zi,rfl⟩ entry_list_sort (list_sort_tree Zi hI h64 λout ns' a1 a2 a3=>⟨_,rfl,?_⟩) (args_list_sort _)))
 exact dE ⟨_,rfl,h out ns' a1 a2 a3⟩
end
section
theorem uU:fC X (.builtin "sorted") (λxs H Q=>∃p ns,xs=[.ref p]/\(bZ X.K H p (ns.map V.int)\/g7 X.K H p (ns.map V.int))/\ns.length<64/\∀q,H q=none->Q (.ref q) (upd H q (.lst ((cZ ns).map V.int)))):=by
 intro ah s σ H xs us Q I r h;obtain⟨p,ns,rfl,hq,hl,q⟩:=h;obtain⟨u,rfl,rx⟩:=vals1 r;cases rx;have fin:∀(vs:List Value) (out:Array Value) (ns':List Int),IntsAre out.toList ns'->ns'.Perm ns->ns'.Pairwise (· <= ·)->EP X ah σ Q (.ref (s⁻¹+1)) { s with heap:=sortedAll s.heap vs out}:=λvs out ns' a1 a2 a3=>by
  have e:=oY a2 a3;subst e;obtain⟨ep,he⟩:=sortedAll_at s.heap vs out;have aL:(cZ ns).length=ns.length:=(dB ns).length_eq;refine⟨.ref (s⁻¹+1),_,I.laid (t':=s.toks) (o:=.lst ((cZ ns).map V.int)) (λb o e=>sortedAll_old e) (AQ _) ?_,rfl,q _ (I.hok.fresh (AQ _))⟩
  refine⟨by rw[fR,aL,nK];lia,out.toList,ep,kW a1,?_⟩
  rw[he]
 rcases hq with hq |hq
 . obtain⟨its,r',pl,hz⟩:=I.list hq;have aL:=r'.length;rw[fR]at aL;exact sorted_ints pl.isList (intsAre_of r') ⋯ λout ns' a1 a2 a3=>fin its out ns' a1 a2 a3
 . obtain⟨its,r',pl,hz⟩:=I.tuple hq;have aL:=r'.length;rw[fR]at aL;exact sS pl (intsAre_of r') ⋯ λout ns' a1 a2 a3=>fin its out ns' a1 a2 a3
theorem rC{K:Frag}{M:List Addr}{H:Hp}:∀ns:List Int,aI K M H (ns.map D.int) (ns.map V.int)
 | []=>.nil
 |n::ns=>.cons (.int n) (rC ns)
theorem Bt(hK:z.K=X.K)(h:cW d=some l)(hi:cJ l=some ns)(hl:ns.length<64):CallD X z (.builtin "sorted") [d] (.new ((cZ ns).map .int)):=by
 refine⟨_,uU,λg σ As M H vs Q s p k=>?_⟩
 obtain⟨v,rfl,pv⟩:=p.one;have fin:∀q,H q=none->Q (.ref q) (upd H q (.lst ((cZ ns).map V.int))):=λq hq=>k _ _ As (q::M) (s.aQ hq) (aq.aQ hq) ⟨q,_,rfl,dA,λhA=>s.fresh hq (s.sub q hA),s.bW hq,aA,rC _⟩
 cases d with
 |lst m=>cases h;obtain⟨a,xs,rfl,e1,e2⟩:=pv.list;have:=eF e2 hi;subst this;exact⟨a,ns,rfl,.inl (bZ.of e1),hl,fin⟩
 |tup m=>cases h;obtain⟨a,xs,rfl,e1,e2⟩:=pv.tup;have:=eF e2 hi;subst this;exact⟨a,ns,rfl,.inr (hK▸e1.sq),hl,fin⟩
 |fix m=>cases h;obtain⟨a,xs,rfl,e1,e2⟩:=pv.fix;have:=eF e2 hi;subst this;exact⟨a,ns,rfl,.inl (hK▸e1.sq),hl,fin⟩
 |_=>cases h
end
section
def Xe(X:Cx)(z:Z)(e:Expr)(g:G)(lo hi:Int)(g1:G):Prop:=
 ∀(ah:List (Addr×Obj)) (s:Shared) (σ:Sg) (As M:List Addr) (H:Hp) (Post:Value->Shared->Prop),L2.Inv X ah σ H s->S z g σ As M H->
  (∀r s1 H1 aO M1 t u v,L2.Inv X ah σ H1 s1->S z g1 σ aO M1 H1->aq M H M1 H1->IsRange s1.heap r lo hi 1 t u v->Post (.ref r) s1)->wpAny (model X.prog X.w) X.A (eval e X.env) Post X.xe s
theorem cO.run(ha:cO X z es g rs g1)(I:L2.Inv X ah σ H s)(st:S z g σ As M H)
  (k:∀vs us s1 H1 aO M1,L2.Inv X ah σ H1 s1->Vals vs us->S z g1 σ aO M1 H1->aq M H M1 H1->jy z σ M1 H1 rs vs->Post us s1):wpAny (model X.prog X.w) X.A (spliced (backTo pos (starEach es X.env))) Post X.xe s:=by
 obtain⟨t,q,kt⟩:=ha;exact bL (q pos ah s σ H (λvs H1=>∃aO M1,S z g1 σ aO M1 H1/\aq M H M1 H1/\jy z σ M1 H1 rs vs) I (kt σ As M H _ st λvs H1 aO M1 s1 cI R=>⟨aO,M1,s1,cI,R⟩)) λus s1 ⟨vs,H1,I1,r1,aO,M1,q1,q2,q3⟩=>k vs us s1 H1 aO M1 I1 r1 q1 q2 q3
theorem rg_1(h:cO X z [a] g [.dat (.int j)] g1)(hg:Gl X "range")(hm:X.mg "range"=none)(hs:starEach [a] X.env=[(false,eval a X.env)]):Xe X z (.Call (.Name "range" p) [a] [] rp) g 0 j g1:=by
 intro ah s σ As M H Post I st k;refine Call_ (fK I hg hm boot_range (mE (h.run I st λvs us s1 H1 aO M1 I1 r1 q1 q2 q3=>?_) hs rfl))
 cases q3 with
 |dat r R=>
  cases R;cases r;cases r1 with
  |cons r rr=>cases rr;obtain⟨t,rfl⟩:=r;exact call_range_1 (k _ _ H1 aO M1 _ _ _ (I1.kept λb o e=>bP _ e) q1 q2 (IsRange.new ..))
noncomputable def xB(lo:Int)(n:Nat):List V:=(List.range n).map λ(k:Nat)=>V.int (lo+(k:Int))
theorem Bu{lo:Int}{n:Nat}{acc:Array Value}(h:ItemsOf (λi v=>∃t,v=Value.int (lo+(i:Int) * 1) t) acc n):Vals (xB lo n) acc.toList:=by
 have key:∀(m:Nat) (l:List Value) (o:Nat),l.length=m->(∀j v,l[j]?=some v->∃t,v=Value.int (lo+((o+j:Nat):Int)) t)->Vals ((List.range' o m).map λ(k:Nat)=>V.int (lo+(k:Int))) l:=by
  intro m
  induction m with
  |zero=>intro l o hl _;cases l with
   |nil=>exact .nil
   |cons _ _=>simp at hl
  |succ m ih=>
   intro l o hl hv;cases l with
   |nil=>simp at hl
   |cons v l=>
    rw[AJ,List.map_cons];obtain⟨t,e⟩:=hv 0 v rfl;refine .cons ⟨t,by rw[e];rfl⟩ (ih l (o+1) (by simpa using hl) λj w hw=>?_)
    obtain⟨t',e'⟩:=hv (j+1) w (by simpa using hw)
    exact⟨t',by rw[e',show o+(j+1)=o+1+j by lia]⟩
 unfold xB;rw[wP];refine key n acc.toList 0 (by rw[nE];exact h.1) λj v hv=>?_
 obtain⟨t,e⟩:=h.2 j v (by rw[<- B0];exact hv)
 exact⟨t,by rw[e,Bz,Int.mul_one]⟩
theorem Bv{K:Frag}{M:List Addr}{H:Hp}(lo:Int)(n:Nat):aI K M H (cL lo n) (xB lo n):=by
 unfold cL xB
 induction List.range n with
 |nil=>exact .nil
 |cons k l ih=>exact .cons (.int _) ih
theorem Fw{e:Expr}{lo hi:Int}(h:Xe X z e g lo hi g1)(hc:X.calm=true)(hg:Gl X "list")(hm:X.mg "list"=none)(hs:starEach [e] X.env=[(false,eval e X.env)])(h1 : -(2 ^ 62)<=lo/\lo<2 ^ 62/\-(2 ^ 62)<=hi/\hi<2 ^ 62)(hl:(hi - lo).toNat<=16777216) :
  aD X z (.Call (.Name "list" lp) [e] [] pos) g (.new (cL lo (hi - lo).toNat)) g1:=by
 refine aD.of λah s σ As M H Post I st k=>?_
 refine Call_ (fK I hg hm (by rfl:bootBuiltins ("list":Str)=some (.type "list")) (mE ?_ hs rfl))
 rw[hs];show wpAny _ _ (spliced ((false,eval e X.env)::[])) _ _ s;refine Calls.spliced_cons (h ah s σ As M H _ I st λr s1 H1 aO M1 t u v I1 q1 q2 hr=>Calls.spliced_nil ?_)
 have hn:Builtin.Range.rangeSize lo hi 1=(((hi - lo).toNat:Nat):Int):=by rw[rangeSize_one];split <;> lia
 refine call_list_range (I1.ok.hd hc) hr (small_one h1.1 h1.2.1 h1.2.2.1 h1.2.2.2) hn hl λh' tk acc' c' hk hS' hacc=>?_
 have hf:H1 s1⁻¹=none:=I1.hok.fresh (dS _);have s2:=q1.aQ (xs:=xB lo (hi - lo).toNat) hf;have vv:=Bu hacc;have I2:L2.Inv X ah σ (upd H1 s1⁻¹ (.lst (xB lo (hi - lo).toNat))) { s1 with heap:=h',toks:=tk}:=
  I1.laid (t':=tk) hk (dS _) (show cY X.prog X.w _ h' _ (.lst (xB lo (hi - lo).toNat))from⟨by rw[vv.length,nE,hacc.1];exact oB hl,acc'.toList,c',vv,by simpa using hS'⟩)
 exact k (.ref s1⁻¹) _ _ _ aO (s1⁻¹::M1) I2 rfl s2 (q2.trans (aq.aQ hf)) ⟨_,_,rfl,dA,λhA=>q1.fresh hf (q1.sub _ hA),q1.bW hf,aA,Bv _ _⟩
end
theorem oZ(o:Obj)(f):(o.mapFields f).dict=o.dict:=by obtain⟨c,d,dt,sl⟩:=o;cases dt <;> rfl
structure uD(h₀:Heap)(x C:Addr)(H:Hp)(h:Heap):Prop where
 obj:∃oe vs,h.get? x=some oe/\oe.cls=.ref C/\oe.dict=none/\oe.data=.fields vs/\1<vs.size/\(vs[1]?=some .none\/∃T oT ts,vs[1]?=some (.ref T)/\T≠x/\h₀.get? T=none/\H T=none/\h.get? T=some oT/\oT.data=.fields ts/\ts[3]?=some .none)
 new:h₀.get? x=none
 no:H x=none
section
theorem j8
  (hfr:A.frames=some (env::outer)) (hl:s.heap.FunFrames base (env::outer)) (hf:env.frame=some L) (he:s.heap.get? x=some oe) (hd:oe.data=.fields vs) (jk:1<vs.size)
  (h:∀h',(∀b o,b∉frs (env::outer)->b≠x->s.heap.get? b=some o->h'.get? b=some o)->(∀b o,b∈frs (env::outer)->s.heap.get? b=some o->∃sl,h'.get? b=some { o with slots:=sl})->
   (∃Dr vs' oT ts,h'.get? x=some Dr/\Dr.cls=oe.cls/\Dr.dict=oe.dict/\Dr.data=.fields vs'/\1<vs'.size/\vs'[1]?=some (.ref s⁻¹)/\h'.get? s⁻¹=some oT/\oT.data=.fields ts/\ts[3]?=some .none)->Q () { s with heap:=h'}) :
  wpAny M A (do let a <- frameOf env;let pl <- entryPlaceOf L hadNext;let b <- EntryCells.newEntry head a .none (rawInt L) .none pl;setField (.ref x) 1 b) (λ_ s'=>wpAny M A (setFlight (.ref x) none) Q E s') E s:=by
 have hx:x∉(env::outer).filterMap (·.frame):=λhm=>by
  obtain⟨_,o,ho,hnf⟩:=hl.mem hm;rw[he]at ho;cases ho;exact hnf vs hd
 refine aS (wpAny_frameOf_fun hfr hl hf λh₁ hs₁=>?_)
 refine aS (wpAny_entryPlaceOf λpl gQ=>?_)
 unfold EntryCells.newEntry newFields;refine aS (n0 ?_ (gQ.sizeOk5 _ _ _ _ _));have he₁:h₁.get? x=some oe:=(hs₁.2.1 x hx).trans he;generalize hO:({ cls:=.type "traceback",dict:=none,data:=.fields ([head,.ref L,.none,rawInt L,.none]++(if pl.isEmpty then List.replicate 6 Value.none else pl)).toArray}:Obj)=O
 have he₂:=bP (h:=h₁) O he₁;have hsz₁:h₁.objs.size=s⁻¹:=hs₁.1;have hT₂:(h₁.push O).get? h₁.objs.size=some O:=eJ _ (by rw[<- hO];rfl)
 refine AX he₂ hd jk ?_;have Rq:h₁.objs.size≠x:=y6 (eP he₁);have hd₃:=v6 hd (·.setIfInBounds 1 (Value.ref h₁.objs.size));have he₃:=oS (Obj.mapFields (·.setIfInBounds 1 (Value.ref h₁.objs.size))) he₂ (u4 hd₃);have hT₃:=(i9 (h₁.push O) (Obj.mapFields (·.setIfInBounds 1 (Value.ref h₁.objs.size))) (mP Rq)).trans hT₂;have hdO:O.data=.fields ([head,.ref L,.none,rawInt L,.none]++(if pl.isEmpty then List.replicate 6 Value.none else pl)).toArray:=by rw[<- hO]
 unfold setFlight;refine aS (mI he₃ hd₃ (x:=.ref h₁.objs.size) (by simp[jk]) ?_)
 rw[fN (show (Value.ref h₁.objs.size != Value.none)=true from by simp)]
 refine AX hT₃ hdO (by simp only[dC,eR,l6,AO] <;> lia) (h _ ?_ ?_ ?_)
 . intro b o hb KJ ho;have Xg:h₁.get? b=some o:=(hs₁.2.1 b hb).trans ho;rw[i9 _ _ (y6 (eP Xg)),i9 _ _ (mP KJ)];exact bP _ Xg
 .
  intro b o hb ho;obtain⟨sl,Xg⟩:=hs₁.2.2 b o ho;have KJ:b≠x:=λq=>hx (q▸hb)
  refine⟨sl,?_⟩;rw[i9 _ _ (y6 (eP Xg)),i9 _ _ (mP KJ)];exact bP _ Xg
 .
  rw[<- hsz₁];refine⟨_,_,_,_,(i9 _ _ Rq).trans he₃,Obj.cls_mapFields _ _,oZ _ _,hd₃,by simp[jk],by simp[jk],oS _ hT₃ (u4 (v6 hdO _)),v6 hdO _,?_⟩
  first
   | (simp;done)
   | (rcases gQ with rfl |⟨_,_,_,_,_,_,_,rfl⟩ <;> simp)
theorem qE
  (hfr:A.frames=some (env::outer)) (hl:s.heap.FunFrames base (env::outer)) (hf:env.frame=some L) (fl:uD h₀ x C H s.heap) (hn:h₀.get? s⁻¹=none) (hH:∀b,s⁻¹<=b->H b=none)
  (h:∀h',(∀b o,b∉frs (env::outer)->(h₀.get? b=none->H b=none->∀vs,o.data≠.fields vs)->s.heap.get? b=some o->h'.get? b=some o)->(∀b o,b∈frs (env::outer)->s.heap.get? b=some o->∃sl,h'.get? b=some { o with slots:=sl})->
   uD h₀ x C H h'->(∀b o,s.heap.get? b=some o->∃o',h'.get? b=some o')->Q () { s with heap:=h'}):wpAny M A (noteFrame (.ref x) env) (λ_ s'=>wpAny M A (setFlight (.ref x) none) Q E s') E s:=by
 obtain⟨⟨oe,vs,he,hc,bE,hd,jk,hT⟩,Vd,Ve⟩:=fl;have hxf:x∉frs (env::outer):=λhm=>by
  obtain⟨_,o,ho,hnf⟩:=hl.mem hm;rw[he]at ho;cases ho;exact hnf vs hd
 have fin:∀(T0:Addr) (h1 h':Heap),(∀b,b≠T0->h1.get? b=s.heap.get? b)->(T0=x\/(h₀.get? T0=none/\H T0=none/\T0∉frs (env::outer)/\∃oT ts,s.heap.get? T0=some oT/\oT.data=.fields ts))->(∀o,s.heap.get? T0=some o->∃o',h1.get? T0=some o')->h1.objs.size=s⁻¹->
   (∀b o,b∉frs (env::outer)->b≠x->h1.get? b=some o->h'.get? b=some o)->(∀b o,b∈frs (env::outer)->h1.get? b=some o->∃sl,h'.get? b=some { o with slots:=sl})->
   (∃Dr vs' oT ts,h'.get? x=some Dr/\Dr.cls=oe.cls/\Dr.dict=oe.dict/\Dr.data=.fields vs'/\1<vs'.size/\vs'[1]?=some (.ref h1.objs.size)/\h'.get? h1.objs.size=some oT/\oT.data=.fields ts/\ts[3]?=some .none)->Q () { s with heap:=h'}:=by
  intro T0 h1 h' a1 a2 a2' a3 k1 k2 ⟨Dr,vs',oT,ts,e1,e2,JX,e3,e4,e5,e6,e7,e8⟩;have hTf:T0∉frs (env::outer):=a2.elim (λq=>q▸hxf) λq=>q.2.2.1
  refine h h' (λb o hb hH' ho=>?_) (λb o hb ho=>?_) ⟨⟨Dr,vs',e1,e2.trans hc,JX.trans bE,e3,e4,.inr ⟨h1.objs.size,oT,ts,e5,?_,?_,?_,e6,e7,e8⟩⟩,Vd,Ve⟩ λb o ho=>?_
  .
   have KJ:b≠x:=λq=>by
    subst q;rw[he]at ho;cases ho;exact hH' Vd Ve vs hd
   have Zw:b≠T0:=λq=>a2.elim (λz=>KJ (q.trans z)) λ⟨z1,z2,_,oT,ts,z3,z4⟩=>by
    subst q;rw[z3]at ho;cases ho;exact hH' z1 z2 ts z4
   exact k1 b o hb KJ ((a1 b Zw).trans ho)
  . exact k2 b o hb ((a1 b (λq=>hTf (q▸hb))).trans ho)
  . rw[a3];exact y6 (eP he)
  . rw[a3];exact hn
  . rw[a3];exact hH _ (dS _)
  .
   by_cases KJ:b=x
   . exact⟨Dr,KJ▸e1⟩
   .
    have h1b:∃o1,h1.get? b=some o1:=by
     by_cases Zw:b=T0
     . subst Zw;exact a2' o ho
     . exact⟨o,(a1 b Zw).trans ho⟩
    obtain⟨o1,N8⟩:=h1b;by_cases hb:b∈frs (env::outer)
    . obtain⟨sl,q⟩:=k2 b o1 hb N8;exact⟨_,q⟩
    . exact⟨o1,k1 b o1 hb KJ N8⟩
 unfold noteFrame;simp only[hf];rcases hT with hT |⟨T,oT,ts,h1,Rq,Zx,Zy,Jo,Jp,h3⟩
 . refine aS (mI he hd hT ?_);rw[gN ⋯];exact j8 hfr hl hf he hd jk λh' k1 k2 k3=>fin x s.heap h' (λ_ _=>rfl) (.inl rfl) (λo ho=>⟨o,ho⟩) rfl k1 k2 k3
 .
  refine aS (mI he hd h1 ?_);rw[fN (show (Value.ref T != Value.none)=true from by simp)]
  refine aS (mI Jo Jp h3 ?_);rw[gN (show ¬ ((Value.none==rawInt L)=true)from by simp[rawInt])]
  refine aS (AX Jo Jp (yB.mp h3).1 ?_);have other:∀b,b≠T->(s.heap.update T (Obj.mapFields (·.setIfInBounds 3 Value.none))).get? b=s.heap.get? b:=λb hb=>i9 _ _ (mP hb)
  have hTf:T∉frs (env::outer):=λhm=>by
   obtain⟨_,o,ho,hnf⟩:=hl.mem hm;rw[Jo]at ho;cases ho;exact hnf ts Jp
  have rec':∀b o,s.heap.get? b=some o->(∀vs,o.data≠.fields vs)->b≠T:=λb o hb hnf q=>by
   rw[q,Jo]at hb;cases hb;exact hnf ts Jp
  refine j8 hfr (hl.of_keeps λb o hb hnf=>⟨o,(other b (rec' b o hb hnf)).trans hb,rfl⟩) hf ((other x (mP Rq)).trans he) hd jk λh' k1 k2 k3=>?_
  exact fin T _ h' other (.inr ⟨Zx,Zy,hTf,oT,ts,Jo,Jp⟩) (λo ho=>⟨_,oS _ Jo (u4 (v6 Jp _))⟩) (A4 ..) k1 k2 k3
end
theorem uD.mono(f:uD h₁ x C H h)(hm:∀b o,h₀.get? b=some o->∃o',h₁.get? b=some o'):uD h₀ x C H h:=by
 have no:∀b,h₁.get? b=none->h₀.get? b=none:=λb hb=>by
  cases e:h₀.get? b with
  |none=>rfl
  |some o=>obtain⟨o',e'⟩:=hm b o e;rw[hb]at e';cases e'
 obtain⟨⟨oe,vs,h1,h2,h2',h3,h4,h5⟩,h6,h7⟩:=f;exact⟨⟨oe,vs,h1,h2,h2',h3,h4,h5.imp id λ⟨T,oT,ts,q1,q2,q3,q4⟩=>⟨T,oT,ts,q1,q2,no T q3,q4⟩⟩,no x h6,h7⟩
noncomputable def Ds(P:Program)(w:World):Al:=λouter H s E e s'=>∃x C H',e=.ref x/\s'.os=s.os/\AllBare s'.gens/\Un (frs outer) [] H H' s.heap s'.heap/\kO P w H' s'.heap/\uD s.heap x C H' s'.heap/\E (.ref C) none H'
theorem Fy(hx:X.ex=[])(I:L2.Inv X ah σ H s)(h:Ds X.prog X.w X.stack H s E e s') :
  ∃x C H',e=.ref x/\L2.Inv X ah σ H' s'/\uD X.s₀.heap x C H' s'.heap/\E (.ref C) none H':=by
 obtain⟨x,C,H',rfl,h1,h2,h3,h4,h5,h6⟩:=h;exact⟨x,C,H',rfl,I.call' h1 h3 h4 h2 (λb z=>absurd z ⋯),h5.mono λb o e=>I.base.there b o e (by rw[hx];simp),h6⟩
section
theorem uV(I:L2.Inv X ah σ H' s')(bY:X.stack=X.env::X.outer)(hf:X.env.frame=some X.env.locals)(hex:X.ex=[])(fl:uD X.s₀.heap x C H' s'.heap)
  (h:∀h'',(∀b o,b∉frs (X.env::X.outer)->(X.s₀.heap.get? b=none->H' b=none->∀vs,o.data≠.fields vs)->s'.heap.get? b=some o->h''.get? b=some o)->(∀b o,b∈frs (X.env::X.outer)->s'.heap.get? b=some o->∃sl,h''.get? b=some { o with slots:=sl})->
   Un (frs X.outer) [] X.H₀ H' X.s₀.heap h''->kO X.prog X.w H' h''->uD X.s₀.heap x C H' h''->Q () { s' with heap:=h''}) :
  wpAny (model X.prog X.w) X.A (noteFrame (.ref x) X.env) (λ_ s2=>wpAny (model X.prog X.w) X.A (setFlight (.ref x) none) Q E' s2) E' s':=by
 have hl:=I.stack;rw[bY]at hl;have ub:Un (frs X.outer) [] X.H₀ H' X.s₀.heap s'.heap:=hex▸I.base;have hsf:=I.r9;rw[bY]at hsf;refine qE (L:=X.env.locals) (I.ok.frames.trans (by rw[bY])) hl hf fl (Heap.get?_none_of_le I.sz) (λb hb=>I.hok.fresh hb) λh'' k1 k2 k3 k4=>?_
 have hin:∀b,b∈frs X.outer->b∈frs (X.env::X.outer):=λb hb=>by
  unfold frs;rw[l8,hf];exact a9 _ hb
 have hno:∀b o,X.s₀.heap.get? b=some o->b∉frs X.outer->b∉frs (X.env::X.outer):=λb o ho hb hm=>by
  unfold frs at hm;rw[l8,hf]at hm;rcases d6.mp hm with e |hm
  . rw[e]at ho;exact oD _ (eD (eP ho) I.ok.above)
  . exact hb hm
 have qi:∀b o (ob:Obj),X.s₀.heap.get? b=some o->(X.s₀.heap.get? b=none->H' b=none->∀vs,ob.data≠.fields vs):=λb o ob ho hb=>by rw[ho]at hb;cases hb
 refine h h'' k1 k2 ⟨λb o q n hb hx=>?_,λb o q n hb hx=>?_,ub.free,λb o q hx=>?_,ub.tups,ub.jQ,ub.jR⟩ (λa o e=>?_) k3
 . exact k1 b o (hno b o q hb) (qi b o _ q) (ub.keep b o q n hb hx)
 . obtain⟨sl,e1⟩:=ub.slot b o q n hb hx;obtain⟨Zh,e2⟩:=k2 b _ (hin b hb) e1;exact⟨Zh,e2⟩
 . obtain⟨o',e1⟩:=ub.there b o q hx;exact k4 b o' e1
 .
  refine (I.hok a o e).stay (λb u hb q=>?_) (λ_ q=>q) λ_ _ q=>q
  have ht:H' b≠none:=by
   rcases hb with rfl |hb
   . rw[e];simp
   . rw[hb];simp
  exact k1 b u (λhm=>ht (hsf b hm)) (λ_ z=>absurd z ht) q
theorem rD(I:L2.Inv X ah σ H' s')(bY:X.stack=X.env::X.outer)(hf:X.env.frame=some X.env.locals)(hex:X.ex=[])(fl:uD X.s₀.heap x C H' s'.heap)
  (h:∀s'',Ds X.prog X.w X.outer X.H₀ X.s₀ (λc o h=>c=.ref C/\o=none/\h=H') (.ref x) s''->Q () s'') :
  wpAny (model X.prog X.w) X.A (leaving X.env (.ref x)) Q E' s':=by
 unfold leaving;exact aS (uV I bY hf hex fl λh'' _ _ u k f=>h _ ⟨x,C,H',rfl,I.os,I.bare,u,k,f,rfl,rfl,rfl⟩)
theorem Bw(I:L2.Inv X [] σ H' s')(hp:X.pn=[])(bY:X.stack=X.env::X.outer)(hf:X.env.frame=some X.env.locals)(hex:X.ex=[])(fl:uD X.s₀.heap x C H' s'.heap)
  (h:∀s'',L2.Inv X [] σ H' s''->uD X.s₀.heap x C H' s''.heap->Q () s'') :
  wpAny (model X.prog X.w) X.A (noteFrame (.ref x) X.env) (λ_ s2=>wpAny (model X.prog X.w) X.A (setFlight (.ref x) none) Q E' s2) E' s':=by
 refine uV I bY hf hex fl λh'' k1 k2 u k f=>h _ ?_ f
 have cellK:∀c v,s'.heap.IsCell c v->h''.IsCell c v:=λc v ⟨o,e,d⟩=>by
  by_cases hb:c∈frs (X.env::X.outer)
  . obtain⟨sl,e2⟩:=k2 c o hb e;exact⟨_,e2,d⟩
  . exact⟨o,k1 c o hb (λ_ _ vs q=>by rw[d]at q;cases q) e,d⟩
 have hlm:X.env.locals∈frs (X.env::X.outer):=by unfold frs;rw[l8,hf];exact dA
 obtain⟨m,hn,hlk⟩:=I.loc;refine⟨I.ok,I.os,I.bare,hex▸u,⟨m,?_,λi y v h1 h2 h3=>?_⟩,λy c e=>?_,I.free,I.dP,λp hp2=>?_,k,I.len⟩
 . obtain⟨o,es,ep,e,d,r⟩:=hn;obtain⟨sl,e2⟩:=k2 _ o hlm e;exact⟨_,es,ep,e2,d,r⟩
 . obtain⟨u,r,q⟩:=hlk i y v h1 h2 h3;refine⟨u,r,q.imp id λ⟨q1,c,q2,q3⟩=>⟨q1,c,q2,cellK c _ q3⟩⟩
 . obtain⟨v,q⟩:=I.cell y c e;exact⟨v,cellK c v q⟩
 . rw[hp]at hp2;cases hp2
end
theorem Fz{P:Program}{w:World}{K:Frag}{mg:Str->Option Value}{base:Heap}{N:List Str}{qual:Str}{scope:Scope}{f:Addr}{cd:Value}{A:Around}{outer:List Env}{s:Shared}{H:Hp}{E:XK}{ah:List (Addr×Obj)}{σ:Sg}{H':Hp}{s':Shared}{x C:Addr}
  (I:L2.Inv (fL (Ds P w) P w K mg base N qual scope f cd A outer s H E) ah σ H' s') (fl:uD s.heap x C H' s'.heap) (hE:E (.ref C) none H'):(fL (Ds P w) P w K mg base N qual scope f cd A outer s H E).xe (.ref x) s':=
 rD I rfl rfl rfl fl λs'' ⟨y,D,H2,e,h1,h2,h3,h4,h5,e1,e2,e3⟩=>by
  cases e;cases e1;subst e3;exact⟨x,C,H2,rfl,h1,h2,h3,h4,h5,hE⟩
def Acc(X:Cx)(z:Z)(g':G)(M:List Addr)(H:Hp)(C:Addr)(σ:Sg):Prop:=
 ∀ah s1 H1 aO M1 x,L2.Inv X ah σ H1 s1->S z g' σ aO M1 H1->aq M H M1 H1->uD X.s₀.heap x C H1 s1.heap->X.xe (.ref x) s1
def Bx(X:Cx)(z:Z)(g':G)(M:List Addr)(H:Hp)(C:Addr):Prop:=∀σ,Acc X z g' M H C σ
theorem Acc.trans(st:aq M H M1 H1)(h:Acc X z g' M H C σ):Acc X z g' M1 H1 C σ:=λah s1 H2 aO M2 x I s st' fl=>h ah s1 H2 aO M2 x I s (st.trans st') fl
theorem Bx.trans(st:aq M H M1 H1)(h:Bx X z g' M H C):Bx X z g' M1 H1 C:=λσ=>(h σ).trans st
def FG(X:Cx)(z:Z)(e:Expr)(g:G)(C:Addr)(g':G):Prop:=∃t,PE X e t/\∀σ As M H Q,S z g σ As M H->Acc X z g' M H C σ->t σ H Q
def Vf(X:Cx)(z:Z)(e:Expr)(g:G)(C:Addr)(g':G):Prop:=∃t,PT X e t/\∀σ As M H Q,S z g σ As M H->Acc X z g' M H C σ->t σ H Q
def Xh(X:Cx)(z:Z)(es:List Expr)(g:G)(C:Addr)(g':G):Prop:=∃t,PA X es t/\∀σ As M H Q,S z g σ As M H->Acc X z g' M H C σ->t σ H Q
def Rr(X:Cx)(z:Z)(st:Stmt)(g:G)(C:Addr)(g':G):Prop:=∃t,PS X st t/\∀σ As M H E,S z g σ As M H->Bx X z g' M H C->t E σ H
def KN(X:Cx)(z:Z)(jP:List Stmt)(g:G)(C:Addr)(g':G):Prop:=∃t,se X jP t/\∀σ As M H E,S z g σ As M H->Bx X z g' M H C->t E σ H
section
variable{st:Stmt}
theorem aD.lift(h:aD X.mh z e g r g'):aD X z e g r g':=let ⟨t,q,k⟩:=h;⟨t,q.mh,k⟩
theorem cg.lift(h:cg X.mh z e g v g'):cg X z e g v g':=let ⟨t,q,k⟩:=h;⟨t,q.mh,k⟩
theorem Rt(h:FG X z e g C g')(he:∀whole,isTrue e X.env whole=(do let v <- whole;standAt e.pos;holding [v] (truthy v))):Vf X z e g C g':=by obtain⟨t,q,k⟩:=h;exact⟨_,Pq q he,λσ As M H Q s ac=>k σ As M H _ s ac⟩
theorem KQ(h:Vf X z a g C g'):Vf X z (.UnaryOp .Not a pos) g C g':=by obtain⟨t,q,k⟩:=h;exact⟨_,DQ q,λσ As M H Q s ac=>k σ As M H _ s ac⟩
theorem KR(h:FG X z e g C g')(hs:starEach (e::es) X.env=(false,eval e X.env)::starEach es X.env):Xh X z (e::es) g C g':=by
 obtain⟨t,q,k⟩:=h;have pn:PA X es (λ_ _ _=>False):=λ_ _ _ _ _ _ _ h=>h.elim
 exact⟨_,bC q pn hs,λσ As M H Q s ac=>k σ As M H _ s ac⟩
theorem KS(h1:aD X z e g r g1)(h:Xh X z es g1 C g')(hs:starEach (e::es) X.env=(false,eval e X.env)::starEach es X.env):Xh X z (e::es) g C g':=by obtain⟨t1,q1,k1⟩:=h1;obtain⟨t,q,k⟩:=h;exact⟨_,bC q1 q hs,λσ As M H Q s ac=>k1 σ As M H _ s λv H1 aO M1 s1 cI R1=>k σ aO M1 H1 _ s1 (ac.trans cI)⟩
theorem Ru(h:FG X z e g C g'):Rr X z (.Return (some e) pos) g C g':=by obtain⟨t,q,k⟩:=h;exact⟨_,sr q,λσ As M H E s ac=>k σ As M H _ s (ac σ)⟩
theorem KY(h:FG X z e g C g')(hs:swapsWith e none pos.line X.env=pure false):Rr X z (.Expr e pos) g C g':=by obtain⟨t,q,k⟩:=h;exact⟨_,nD q hs,λσ As M H E s ac=>k σ As M H _ s (ac σ)⟩
theorem Rv(h:Vf X z c g C g'):Rr X z (.If c x y pos) g C g':=by obtain⟨t,q,k⟩:=h;exact⟨_,nX q bu bu,λσ As M H E s ac=>k σ As M H _ s (ac σ)⟩
theorem FH(h1:cg X z c g v g1)(h:KN X z (if v then x else y) g1 C g'):Rr X z (.If c x y pos) g C g':=by
 obtain⟨t1,q1,k1⟩:=h1;obtain⟨t,q,k⟩:=h;cases v with
 |true=>exact⟨_,nX q1 q bu,λσ As M H E s ac=>k1 σ As M H _ s λH' aC M' s' st=>jw (k σ aC M' H' _ s' (ac.trans st))⟩
 |false=>exact⟨_,nX q1 bu q,λσ As M H E s ac=>k1 σ As M H _ s λH' aC M' s' st=>ng (k σ aC M' H' _ s' (ac.trans st))⟩
theorem KZ(h:Rr X z st g C g'):KN X z (st::jP) g C g':=by obtain⟨t,q,k⟩:=h;exact⟨_,dQ q bu,λσ As M H E s ac=>k σ As M H _ s ac⟩
theorem K1(h1:fW X z st g .nx g1)(h:KN X z jP g1 C g'):KN X z (st::jP) g C g':=by obtain⟨t1,q1,k1⟩:=h1;obtain⟨t,q,k⟩:=h;exact⟨_,dQ q1 q,λσ As M H E s ac=>k1 σ As M H _ s λσ' aC M' H' s' st'=>k σ' aC M' H' E s' (ac.trans st')⟩
end
def SpX(K:Frag)(N:List Str)(np:Nat)(run:List Nat->G->Addr->G->Prop):Sp:=λvs H _ E=>
 vs.length=np/\∃(z:Z) (g g':G) (As M:List Addr) (C:Addr),z.K=K/\S z g (L2.start N vs) As M H/\run z.bor g C g'/\∀σ' aC M' H',S z g' σ' aC M' H'->aq M H M' H'->E (.ref C) none H'
section
variable{run:List Nat->G->Addr->G->Prop}
theorem Rx{P:Program}{w:World}{K:Frag}{mg:Str->Option Value}{base:Heap}{qual:Str}{st:Stmt}(F:Jk K x qual st f fd)(Sc:bS N ps (aE st))
  (h:∀(bD:Value) (A:Around) (outer:List Env) (s:Shared) (H:Hp) (E:XK),PySem.W.codeIn K bD qual=true->cD k (A.deeper (envOfC qual (aE st) s⁻¹ f bD))->
   ∀(z:Z) (g:G) (C:Addr) (g':G),z.K=K->run z.bor g C g'->KN (fL (Ds P w) P w K mg base N qual (aE st) f bD A outer s H E) z (bA st) g C g') :
  iZ P w K mg base (Ds P w) (k+1) f fd ps (SpX K N ps.length run):=by
 obtain⟨oc,od,kV,doc,pm,an,bD,ct,osl,rfl,lk,bE⟩:=F.ex;refine N2 lk bE Sc (λvs H Q E q=>q.1) λA outer s H vs Q E hr ⟨_,z,g,g',As,M,C,hK,hs,hrun,hQ⟩=>?_
 obtain⟨t,q,kk⟩:=h bD A outer s H E bE hr z g C g' hK hrun;exact⟨t,q,kk _ As M H _ hs λσ ah s1 H1 aO M1 y I s' st' fl=>Fz I fl (hQ σ aO M1 H1 s' st')⟩
theorem K3(F:iZ X.prog X.w X.K X.mg X.base (Ds X.prog X.w) k f fd ps (SpX X.K N ps.length run))(hK:z.K=X.K)(hex:X.ex=[])(hr:cD k X.A)(hg:Gl X x)(hm:X.mg x=some (.ref f))(hk:PySem.W.keepIn X.K (.ref f)=true)(hb:L2.Binds X.K fd ps [])
  (ha:cO X z (e::es) g rs g1) (aL:rs.length=ps.length) (hl:cu rs g1=some gs) (nd:((vars 0 rs).map (·.2)).Nodup) (hrun:run ((vars 0 rs).map (·.1)) (dz N.length gs) C gc) (Fe:back (vars 0 rs) gc g1=some gO)
  (jt:(x==("__debug__":Str))=false) (he:starEach (e::es) X.env=(false,eval e X.env)::starEach es X.env) (gQ:(backTo pos (starEach es X.env)).any (·.1)=false) :
  FG X z (.Call (.Name x p) (e::es) [] pos) g C gO:=by
 refine⟨λσ H Q=>∃As M,S z g σ As M H/\Acc X z gO M H C σ,λah s σ H Q I ⟨As,M,hs,ac⟩=>?_,λσ As M H Q s ac=>⟨As,M,s,ac⟩⟩
 refine tJ (fB I hg hm ?_ jt);refine AM (h₀:=X.base) I.ok.mod.Dn hk (ha.run (pos:=pos) I hs λvs us s1 H1 aO M1 I1 r1 q1 q2 R1=>⟨I1.nB,?_⟩) he gQ
 have hv:vs.length=rs.length:=R1.length;have hl2:(us++[]).length=ps.length:=by rw[mB,<- r1.length,hv,aL]
 have ee:=q1.enter (N:=N) R1 hl nd;refine CM (A7 (F.run X.A X.stack s1 H1 ⟨us,[]⟩ (us++[]) (vs++[]) (λ_ _=>False) (λcls _ H'=>cls=.ref C/\∃bw M2,S z gO σ bw M2 H'/\aq M H M2 H') hr I1.JG (hb s1 us I1.nB hl2) (by rw[mB,mB];exact r1) ?_) λr s' hq=>?_)
 .
  rw[mB];refine⟨by rw[hv,aL],rA z σ M1 H1 rs,dz N.length gs,gc,_,M1,C,hK,ee,by rw[lq];exact hrun,λσ' aC M' H' s' st'=>⟨rfl,?_⟩⟩
  obtain⟨M2,s2,aK,_⟩:=q1.leave (r:=.dat .non) (v:=.non) R1 hl nd s' st' .non Fe rfl;exact⟨aO,M2,s2,q2.trans aK⟩
 .
  cases r with
  |error ev=>
   have hq:Ds X.prog X.w X.stack H1 s1 (λcls _ H'=>cls=.ref C/\∃bw M2,S z gO σ bw M2 H'/\aq M H M2 H') ev s':=hq
   obtain⟨y,C',H',rfl,I',fl,hC,bw,M2,s2,aK⟩:=Fy hex I1 hq;cases hC;exact ac ah s' H' bw M2 y I' s2 aK fl
  |ok flw=>
   cases flw with
   |ret u=>
    have hq:CE X.stack X.prog X.w H1 s1 (λ_ _=>False) u s':=hq
    obtain⟨_,_,_,_,_,_,_,q⟩:=hq;exact q.elim
   |next=>exact False.elim hq
   |brk=>exact False.elim hq
   |cont=>exact False.elim hq
end
noncomputable def veM:List Value:=[.type "ValueError",.type "Exception",.type "BaseException",.type "object"]
abbrev fM(K:Frag)(C:Addr):Prop:=PySem.W.excIn K C veM "ValueError.__new__"=true
theorem sU{K:Frag}{h:Heap}{C:Addr}(X:K.In h)(q:fM K C) :
  ∃bm N nm qn bs hdct sn sub ab col dd k0 k1 k2 k3 k5 mN,h.get? C=some (excClassObj nm qn C N bs bm hdct sn sub ab col dd k0 k1 k2 k3 k5 "ValueError.__new__")/\h.Ns N mN/\mN "__init__"=none/\OwnTail h veM bm:=by
 unfold fM PySem.W.excIn at q;split at q
 .
  rename_i dd cd sl ho;split at q
  .
   rename_i C' bm k0 k1 k2 k3 n k5 hm hs;simp only[eC,beq_iff_eq,Bool.not_eq_true']at q;obtain⟨⟨⟨⟨⟨rfl,rfl⟩,Xi⟩,ht⟩,hok⟩,hni⟩:=q;obtain⟨nm,bs,mro,ns,qn,hd,sn,sub,ab,col,del⟩:=cd;dsimp only at hm Xi hok hni;subst hm Xi;have hsl:sl = #[k0,k1,k2,k3,some (.builtin "ValueError.__new__"),k5]:=by obtain⟨l⟩:=sl;simp only at hs;rw[hs]
   subst hsl;exact⟨bm,ns,nm,qn,bs,hd,sn,sub,ab,col,dd,k0,k1,k2,k3,k5,_,X _ _ ho,.of_isNs (PySem.W.isNs_of_in X hok),PySem.W.nsMap_none_of_in X hok hni,PySem.W.tail_of_in X ht⟩
  . cases q
 . cases q
theorem uW(x:cY P w H h a o):∃ob,h.get? a=some ob:=by
 induction o with
 |lst xs=>obtain⟨_,_,_,_,e⟩:=x;exact⟨_,e⟩
 |tup xs=>obtain⟨_,_,_,ob,e,_⟩:=x;exact⟨_,e⟩
 |dK ju=>obtain⟨_,_,_,_,o,_,_,e,_⟩:=x;exact⟨_,e⟩
 |dT ju=>obtain⟨_,_,_,_,o,_,_,e,_⟩:=x;exact⟨_,e⟩
 |set S n=>obtain⟨o,_,_,_,e,_⟩:=x;exact⟨_,e⟩
 |ins C dx fs=>obtain⟨_,_,_,e,_⟩:=x;exact⟨_,e⟩
 |own y=>exact x
 |xd fs=>obtain⟨mA,⟨o,_,_,e,_⟩,_⟩:=x;exact⟨_,e⟩
 |Zd lo hi=>obtain⟨_,_,_,e⟩:=x;exact⟨_,e⟩
 |jv o u ih=>exact⟨_,x.1⟩
 |kN ps=>exact⟨_,x⟩
 |met f y=>exact⟨_,x⟩
 |ext φ=>exact x.2.1
section
theorem FJ(hc:X.calm=true)(hex:X.ex=[])(hq:fM X.K C)(hg:Gl X x)(hm:X.mg x=some (.ref C))(jt:(x==("__debug__":Str))=false)(ha:cO X z [m] g [.dat d] g1)(hs:starEach [m] X.env=[(false,eval m X.env)]) :
  Rr X z (.Raise (some (.Call (.Name x np) [m] [] aR)) none pos) g C g1:=by
 refine⟨λ_ σ H=>∃As M,S z g σ As M H/\Bx X z g1 M H C,λah s σ H E I ⟨As,M,st,ac⟩=>?_,λσ As M H E s ac=>⟨As,M,s,ac⟩⟩
 obtain⟨bm,N,nm,qn,bs,hdct,sn,sub,ab,col,dd,k0,k1,k2,k3,k5,mN,hC,hN,hni,T⟩:=sU I.ok.mod.Dn hq;refine wpAny_Raise_call_subU (Bn:= "ValueError") (C:=C) (nm:=nm) (q:=qn) (N:=N) (bs:=bs) (bm:=bm) (hdct:=hdct) (sn:=sn) (sub:=sub) (ab:=ab) (col:=col) (dd:=dd) (k0:=k0) (k1:=k1) (k2:=k2) (k3:=k3) (k5:=k5) PySem.F.excBase_ValueError ⋯ PySem.F.excBase_ValueError (T.hasType ⋯) (I.ok.hd hc) (by rw[hs];rfl) hni (fB I hg hm ⟨rfl,?_⟩ jt)
 rw[hs];refine Calls.evalArgs_plain (x:=eval m X.env) (rest:=[]) ?_;have e1:spliced ((false,eval m X.env)::[])=spliced (backTo aR (starEach [m] X.env)):=by rw[hs];rfl
 rw[e1];refine (ha.run I st λvs us s1 H1 aO M1 I1 r1 q1 q2 R1=>?_)
 refine⟨rfl,?_,I1.bk _ _ hC,hN.keeps I1.bk,T.keeps I1.bk,λh' e Zz=>?_⟩
 . show us.length<=sizeLine;have:=r1.length;rw[R1.length]at this;rw[<- this,nK];exact (by decide:(1:Nat)<=16777216)
 .
  have I2:L2.Inv X ah σ H1 { s1 with heap:=h'}:=I1.kept (t':=s1.toks) Zz.keeps;have fz:H1 e=none:=by
   cases q:H1 e with
   |none=>rfl
   |some o=>obtain⟨ob,ho⟩:=uW (I1.hok e o q);have hn:=Zz.new;rw[ho]at hn;cases hn
  refine ac σ ah _ H1 aO M1 e I2 q1 q2 ?_;obtain⟨t,ht,_,_⟩:=Zz.there;refine⟨⟨_,_,ht,rfl,rfl,rfl,by simp,.inl ⋯⟩,?_,fz⟩
  cases q:X.s₀.heap.get? e with
  |none=>rfl
  |some o=>
   obtain⟨ob,ho⟩:=I1.base.there e o q (by rw[hex];simp)
   have hn:=Zz.new;rw[ho]at hn;cases hn
end
section
theorem FN(F:iZ X.prog X.w X.K X.mg X.base uB k f fd ps sp)(h:Xh X z (e::es) g C g')(hr:cD k X.A)(hg:Gl X x)(hm:X.mg x=some (.ref f))(hk:PySem.W.keepIn X.K (.ref f)=true)(hb:L2.Binds X.K fd ps [])
  (jt:(x==("__debug__":Str))=false) (he:starEach (e::es) X.env=(false,eval e X.env)::starEach es X.env) (gQ:(backTo pos (starEach es X.env)).any (·.1)=false):FG X z (.Call (.Name x p) (e::es) [] pos) g C g':=by
 obtain⟨t,q,kk⟩:=h;exact⟨_,yT F hr hg hm hk hb .nil N4 q jt he gQ,λσ As M H Q s ac=>kk σ As M H _ s ac⟩
end
open PySem PySem.W PyProof.Rows
noncomputable def gU{α:Type}(lt:Nat->Nat->Bool):KasT α->α
 |.ret a=>a
 |.ask i j k=>gU lt (k (lt i j))
theorem eG{α β:Type}(lt:Nat->Nat->Bool)(f:α->KasT β):∀t:KasT α,gU lt (t.bind f)=gU lt (f (gU lt t))
 |.ret _=>rfl
 |.ask i j k=>eG lt f (k (lt i j))
structure jO(α:Type) where
 lt:α->α->Bool
 irr:∀a,lt a a=false
 tr:∀a b c,lt a b=true->lt b c=true->lt a c=true
 tot:∀a b,lt a b=false->lt b a=false->a=b
namespace jO
variable{α:Type}(O:jO α)
def le(a b:α):Prop:=O.lt b a=false
variable{O}
theorem le_refl(a:α):O.le a a:=O.irr a
theorem le_of_lt(h:O.lt a b=true):O.le a b:=by
 unfold le;cases e:O.lt b a
 . rfl
 . have:=O.tr _ _ _ h e;rw[O.irr]at this;cases this
theorem rE(h1:O.le a b)(h2:O.le b c):O.le a c:=by
 unfold le at *;cases e:O.lt c a with
 |false=>rfl
 |true=>
  exfalso;cases e1:O.lt a b with
  |true=>have:=O.tr _ _ _ e e1;rw[h2]at this;cases this
  |false=>have hab:=O.tot a b e1 h1;subst hab;rw[h2]at e;cases e
theorem zq(h1:O.le a b)(h2:O.le b a):a=b:=O.tot a b h2 h1
end jO
section
variable{α:Type}
noncomputable def dJ(key:Nat->α)(p:Array Nat)(i:Nat):α:=key (p.getD i 0)
def jg(O:jO α)(key:Nat->α)(p:Array Nat)(n:Nat):Prop:=∀i j,i<=j->j<n->O.le (dJ key p i) (dJ key p j)
def iB(O:jO α)(key:Nat->α)(p:Array Nat)(n:Nat):Prop:=∀i j,i<=j->j<n->O.le (dJ key p j) (dJ key p i)
noncomputable def nG(O:jO α)(key:Nat->α)(i j:Nat):Bool:=O.lt (key i) (key j)
theorem getD_some{p q:Array Nat}{i j:Nat}(h:p[i]?=q[j]?):p.getD i 0=q.getD j 0:=by rw[yA,yA,h]
theorem nI{p:Array Nat}{i j:Nat}(hj:j<=p.size)(k:Nat):dJ key (kas_rev p i j) k=if i<=k/\k<j then dJ key p (i+j - 1 - k)else dJ key p k:=by
 have e:=getElem?_mirror_all (i:=i) hj k;unfold dJ kas_rev;split
 . rename_i h;rw[fN h]at e;rw[getD_some e]
 . rename_i h;rw[gN h]at e;rw[getD_some e]
theorem K4{p:Array Nat}{src d:Nat}(hs:src<p.size)(hd:d<=src)(k:Nat):dJ key (bubble p src d) k=if k=src - d then dJ key p src else if src - d<k/\k<=src then dJ key p (k - 1)else dJ key p k:=by
 have e:=getElem?_bubble hs d hd k;unfold dJ;by_cases h1:k=src - d
 . rw[fN h1]at e ⊢;rw[getD_some e]
 .
  rw[gN h1]at e ⊢
  by_cases h2:src - d<k/\k<=src
  . rw[fN h2]at e ⊢;rw[getD_some e]
  . rw[gN h2]at e ⊢;rw[getD_some e]
theorem jg.ext(h:jg O key p n)(hl:O.lt (dJ key p n) (dJ key p (n - 1))=false)(h1:1<=n):jg O key p (n+1):=by
 intro i j hij hj;by_cases e:j<n
 . exact h i j hij e
 .
  have:j=n:=by lia
  subst this;by_cases e2:i=j
  . subst e2;exact jO.le_refl _
  . exact jO.rE (h i (j - 1) ⋯ ⋯) hl
theorem xD:∀(f n:Nat),1<=n->jg O key p n->∃m,gU (nG O key) (kas_asc p f n)=m/\n<=m/\m<=n+f/\jg O key p m/\(m<n+f->O.lt (dJ key p m) (dJ key p (m - 1))=true)
 | 0,n,_,h=>⟨n,rfl,dS _,dS _,h,λz=>absurd z (oD _)⟩
 |f+1,n,h1,h=>by
  unfold kas_asc;show ∃m,gU (nG O key) (if nG O key (p.getD n 0) (p.getD (n - 1) 0)=true then KasT.ret n else kas_asc p f (n+1))=m/\_
  cases e:nG O key (p.getD n 0) (p.getD (n - 1) 0)with
  |true=>exact⟨n,rfl,dS _,by lia,h,λ_=>e⟩
  |false=>obtain⟨m,q1,q2,q3,q4,q5⟩:=xD f (n+1) ⋯ (h.ext e h1);exact⟨m,q1,by lia,by lia,q4,λz=>q5 ⋯⟩
theorem iB.ext(h:iB O key p n)(hl:O.le (dJ key p n) (dJ key p (n - 1)))(h1:1<=n):iB O key p (n+1):=by
 intro i j hij hj;by_cases e:j<n
 . exact h i j hij e
 .
  have:j=n:=by lia
  subst this;by_cases e2:i=j
  . subst e2;exact jO.le_refl _
  . exact jO.rE hl (h i (j - 1) ⋯ ⋯)
theorem iB.Ry(h:iB O key p n)(hk:∀k,dJ key p' k=dJ key p k):iB O key p' n:=λi j a b=>by rw[hk,hk];exact h i j a b
def Xj(key:Nat->α)(p:Array Nat)(n q:Nat):Prop:=q+1<=n/\∀k,n - (q+1)<=k->k<n->dJ key p k=dJ key p (n - 1)
theorem zu(h:Xj key p n q)(hz:n<=p.size)(k:Nat):dJ key (kas_rev p (n - (q+1)) n) k=dJ key p k:=by
 rw[nI hz];split
 . rename_i hk;have hq:=h.1;rw[h.2 k hk.1 hk.2,h.2 (n - (q+1)+n - 1 - k) ⋯ ⋯]
 . rfl
theorem nJ:∀(f:Nat) (p:Array Nat) (n q:Nat),1<=n->n+f<=p.size->iB O key p n->Xj key p n q->
  ∃p' m q',gU (nG O key) (kas_desc f p n q)=(p',m,q')/\p'.Perm p/\n<=m/\m<=n+f/\iB O key p' m/\Xj key p' m q'
 | 0,p,n,q,_,_,h,hq=>⟨p,n,q,rfl,BM _,dS _,dS _,h,hq⟩
 |f+1,p,n,q,h1,hz,h,hq=>by
  unfold kas_desc;show ∃p' m q',gU (nG O key) (if nG O key (p.getD n 0) (p.getD (n - 1) 0)=true then (if q > 0 then kas_desc f (kas_rev p (n - (q+1)) n) (n+1) 0 else kas_desc f p (n+1) 0)
   else .ask (p.getD (n - 1) 0) (p.getD n 0) λd=>if d=true then .ret (p,n,q)else kas_desc f p (n+1) (q+1))=(p',m,q')/\_
  cases e:nG O key (p.getD n 0) (p.getD (n - 1) 0)with
  |true=>
   rw[fN rfl];have hl:O.le (dJ key p n) (dJ key p (n - 1)):=jO.le_of_lt e;have one:∀p':Array Nat,Xj key p' (n+1) 0:=λp'=>⟨by lia,λk a b=>by have:k=n:=⋯;subst this;rfl⟩
   by_cases hq0:q > 0
   .
    rw[fN hq0];have hk:=zu hq (by lia:n<=p.size)
    have hF:iB O key (kas_rev p (n - (q+1)) n) (n+1):=(h.ext hl h1).Ry hk;obtain⟨p',m,q',r1,r2,r3,r4,r5,r6⟩:=nJ f (kas_rev p (n - (q+1)) n) (n+1) 0 ⋯ (by rw[kas_rev_size];lia) hF (one _)
    exact⟨p',m,q',r1,r2.trans (mirror_perm _ _ _ _),by lia,by lia,r5,r6⟩
   . rw[gN hq0];obtain⟨p',m,q',r1,r2,r3,r4,r5,r6⟩:=nJ f p (n+1) 0 ⋯ ⋯ (h.ext hl h1) (one _);exact⟨p',m,q',r1,r2,by lia,by lia,r5,r6⟩
  |false=>
   rw[gN lL];show ∃p' m q',gU (nG O key) (if nG O key (p.getD (n - 1) 0) (p.getD n 0)=true then .ret (p,n,q)else kas_desc f p (n+1) (q+1))=(p',m,q')/\_
   cases e2:nG O key (p.getD (n - 1) 0) (p.getD n 0)with
   |true=>exact⟨p,n,q,rfl,BM _,dS _,by lia,h,hq⟩
   |false=>
    rw[gN lL];have he:dJ key p n=dJ key p (n - 1):=O.tot _ _ e e2;have hq':Xj key p (n+1) (q+1):=⟨by have:=hq.1;lia,λk a b=>by
     show dJ key p k=dJ key p n;by_cases hk:k=n
     . subst hk;rfl
     .
      rw[he];exact hq.2 k ⋯ ⋯⟩
    obtain⟨p',m,q',r1,r2,r3,r4,r5,r6⟩:=nJ f p (n+1) (q+1) ⋯ ⋯ (h.ext (by rw[he];exact jO.le_refl _) h1) hq'
    exact⟨p',m,q',r1,r2,by lia,by lia,r5,r6⟩
theorem FP(h:iB O key p n)(hz:n<=p.size):jg O key (kas_rev p 0 n) n:=λi j a b=>by
 rw[nI hz,nI hz,fN ⟨by lia,by lia⟩,fN ⟨by lia,by lia⟩]
 exact h _ _ ⋯ ⋯
theorem uX(h1:1<=n)(hn:n<=nrem)(hz:nrem<=p.size)(h:iB O key p n):∃m p',gU (nG O key) (kas_tail3 n nrem p)=(m,p')/\p'.Perm p/\1<=m/\m<=nrem/\jg O key p' m:=by unfold kas_tail3;rw[eG];obtain⟨m,q1,q2,q3,q4,_⟩:=xD (O:=O) (key:=key) (p:=kas_rev p 0 n) (nrem - n) n h1 (FP h ⋯);rw[q1];exact⟨m,_,rfl,mirror_perm _ _ _ _,by lia,by lia,q4⟩
theorem mH(h1:1<=n)(hn:n+1<=nrem)(hz:nrem<=p.size)(h:iB O key p (n+1)):∃m p',gU (nG O key) (kas_descPart n nrem p)=(m,p')/\p'.Perm p/\1<=m/\m<=nrem/\jg O key p' m:=by
 unfold kas_descPart;rw[eG];obtain⟨p',m,q',r1,r2,r3,r4,r5,r6⟩:=nJ (O:=O) (key:=key) (nrem - (n+1)) p (n+1) 0 ⋯ ⋯ h ⟨by lia,λk a b=>by have:k=n:=⋯;subst this;rfl⟩
 rw[r1];dsimp only;have hs:p'.size=p.size:=r2.size_eq;by_cases hq:q' > 0
 .
  rw[fN hq];have hk:=zu r6 (by lia:m<=p'.size)
  obtain⟨m',p2,s1,s2,s3,s4,s5⟩:=uX (nrem:=nrem) ⋯ ⋯ (by rw[kas_rev_size];lia) (r5.Ry hk)
  exact⟨m',p2,s1,(s2.trans (mirror_perm _ _ _ _)).trans r2,s3,s4,s5⟩
 . rw[gN hq];obtain⟨m',p2,s1,s2,s3,s4,s5⟩:=uX (nrem:=nrem) ⋯ ⋯ ⋯ r5;exact⟨m',p2,s1,s2.trans r2,s3,s4,s5⟩
theorem FQ(h1:1<=n)(hz:n<=p.size):∃m p',gU (nG O key) (kas_count n p)=(m,p')/\p'.Perm p/\1<=m/\m<=n/\jg O key p' m:=by
 unfold kas_count;rw[eG];obtain⟨m,q1,q2,q3,q4,q5⟩:=xD (O:=O) (key:=key) (p:=p) (n - 1) 1 (dS _) (λi j a b=>by have e1:i=0:=⋯;have e2:j=0:=⋯;subst e1;subst e2;exact jO.le_refl _)
 rw[q1];by_cases e1:(m==n)=true
 . rw[fN e1];exact⟨m,p,rfl,BM _,q2,by lia,q4⟩
 .
  rw[gN e1];have hm:m<n:=by
   have:m≠n:=λz=>e1 (by rw[z];exact B2 _)
   lia
  have qi:=q5 ⋯;by_cases e2:m > 1
  .
   rw[fN e2];show ∃m' p',gU (nG O key) (if nG O key (p.getD 0 0) (p.getD (m - 1) 0)=true then KasT.ret (m,p)else kas_descPart m n (kas_rev p 0 m))=(m',p')/\_
   cases e3:nG O key (p.getD 0 0) (p.getD (m - 1) 0)with
   |true=>exact⟨m,p,rfl,BM _,q2,by lia,q4⟩
   |false=>
    rw[gN lL];have ZC:∀k,k<m->dJ key p k=dJ key p (m - 1):=λk hk=>by
     refine jO.zq (O:=O) (q4 k (m - 1) ⋯ ⋯) ?_;exact jO.rE (show O.le (dJ key p (m - 1)) (dJ key p 0)from e3) (q4 0 k ⋯ hk)
    have hk:∀k,dJ key (kas_rev p 0 m) k=dJ key p k:=λk=>by
     rw[nI ⋯];split
     . rw[ZC _ ⋯,ZC k ⋯]
     . rfl
    have hF:iB O key (kas_rev p 0 m) (m+1):=by
     refine iB.Ry (p:=p) (iB.ext (λi j a b=>?_) (jO.le_of_lt qi) ⋯) hk
     rw[ZC i ⋯,ZC j b];exact jO.le_refl _
    obtain⟨m',p2,s1,s2,s3,s4,s5⟩:=mH (O:=O) (key:=key) (p:=kas_rev p 0 m) q2 (by lia:m+1<=n) (by rw[kas_rev_size];exact hz) hF
    exact⟨m',p2,s1,s2.trans (mirror_perm _ _ _ _),s3,s4,s5⟩
  .
   rw[gN e2];have hF:iB O key p (m+1):=iB.ext (λi j a b=>by have e1:i=0:=⋯;have e2:j=0:=⋯;subst e1;subst e2;exact jO.le_refl _) (jO.le_of_lt qi) q2
   exact mH q2 ⋯ hz hF
theorem o7(hR:jg O key p k):∀(f l r:Nat),l<=r->r<=k->r - l<=f->(∀i,i<l->O.le (dJ key p i) (dJ key p k))->(∀i,r<=i->i<k->O.lt (dJ key p k) (dJ key p i)=true)->
  ∃m,gU (nG O key) (kas_place p k f l r)=m/\m<=k/\(∀i,i<m->O.le (dJ key p i) (dJ key p k))/\∀i,m<=i->i<k->O.lt (dJ key p k) (dJ key p i)=true
 | 0,l,r,h1,h2,h3,h4,h5=>⟨l,rfl,by lia,h4,λi a b=>h5 i ⋯ b⟩
 |f+1,l,r,h1,h2,h3,h4,h5=>by
  unfold kas_place;by_cases e:l ≥ r
  . rw[fN e];exact⟨l,rfl,by lia,h4,λi a b=>h5 i ⋯ b⟩
  .
   rw[gN e];show ∃m,gU (nG O key) (if nG O key (p.getD k 0) (p.getD ((l+r) / 2) 0)=true then kas_place p k f l ((l+r) / 2)else kas_place p k f ((l+r) / 2+1) r)=m/\_
   cases e2:nG O key (p.getD k 0) (p.getD ((l+r) / 2) 0)with
   |true=>
    rw[fN rfl];refine o7 hR f l ((l+r) / 2) ⋯ ⋯ ⋯ h4 λi a b=>?_
    by_cases hi:r<=i
    . exact h5 i hi b
    .
     have q:O.le (dJ key p ((l+r) / 2)) (dJ key p i):=hR _ _ a b;cases e3:O.lt (dJ key p k) (dJ key p i)with
     |true=>rfl
     |false=>
      have:=jO.rE q (show O.le (dJ key p i) (dJ key p k)from e3)
      have JX:O.lt (dJ key p k) (dJ key p ((l+r) / 2))=true:=e2;unfold jO.le at this;rw[this]at JX;cases JX
   |false=>
    rw[gN lL];refine o7 hR f ((l+r) / 2+1) r ⋯ h2 ⋯ (λi a=>?_) h5
    exact jO.rE (hR i ((l+r) / 2) ⋯ ⋯) e2
theorem FT:∀(f:Nat) (p:Array Nat) (k:Nat),k+f<=p.size->jg O key p k->∃p',gU (nG O key) (kas_bin f p k)=p'/\p'.Perm p/\jg O key p' (k+f)
 | 0,p,k,_,h=>⟨p,rfl,BM _,h⟩
 |f+1,p,k,hz,h=>by
  unfold kas_bin;rw[eG];obtain⟨l,q1,q2,q3,q4⟩:=o7 h k 0 k (Ap _) (dS _) ⋯ (λi a=>absurd a (BH _)) (λi a b=>absurd (Nat.lt_of_le_of_lt a b) (oD _))
  rw[q1];have hk:=λi=>K4 (key:=key) (p:=p) (src:=k) (d:=k - l) ⋯ ⋯ i
  have hR:jg O key (bubble p k (k - l)) (k+1):=λi j a b=>by
   rw[hk,hk];have e:k - (k - l)=l:=by lia
   rw[e];by_cases i1:i=l
   .
    rw[fN i1];by_cases j1:j=l
    . rw[fN j1];exact jO.le_refl _
    .
     rw[gN j1,fN ⟨by lia,by lia⟩]
     exact jO.le_of_lt (q4 (j - 1) ⋯ ⋯)
   .
    rw[gN i1];by_cases i2:l<i/\i<=k
    .
     rw[fN i2,gN ⋯,fN ⟨by lia,by lia⟩]
     exact h _ _ ⋯ ⋯
    .
     rw[gN i2];by_cases j1:j=l
     . rw[fN j1];exact q3 i ⋯
     .
      rw[gN j1];by_cases j2:l<j/\j<=k
      . rw[fN j2];exact h _ _ ⋯ ⋯
      . rw[gN j2];exact h _ _ a ⋯
  obtain⟨p',s1,s2,s3⟩:=FT f (bubble p k (k - l)) (k+1) (by rw[bubble_size];lia) hR
  exact⟨p',s1,s2.trans (bubble_perm _ _ _),by rw[show k+(f+1)=k+1+f by lia];exact s3⟩
theorem K5(h1:1<=n):∃p,gU (nG O key) (kas_sort n)=p/\p.Perm (List.range n).toArray/\jg O key p n:=by
 unfold kas_sort;rw[eG];obtain⟨m,p,q1,q2,q3,q4,q5⟩:=FQ (O:=O) (key:=key) (p:=(List.range n).toArray) h1 ⋯;rw[q1];dsimp only;have hs:p.size=n:=by rw[q2.size_eq];simp
 have e:max m 1=m:=by lia
 rw[e];by_cases hm:m<n
 . rw[fN hm];obtain⟨p',s1,s2,s3⟩:=FT (O:=O) (key:=key) (n - m) p m ⋯ q5;exact⟨p',s1,s2.trans q2,by rw[show m+(n - m)=n by lia]at s3;exact s3⟩
 .
  rw[gN hm];have:m=n:=by lia
  subst this;exact⟨p,rfl,q2,q5⟩
end
noncomputable def zz{α:Type}(n:Nat)(P:α->Prop):KasT α->Prop
 |.ret a=>P a
 |.ask i j k=>i<n/\j<n/\∀b,zz n P (k b)
theorem zz.bind{α β:Type}{n:Nat}{P:α->Prop}{Q:β->Prop}{f:α->KasT β}:∀{t:KasT α},zz n P t->(∀a,P a->zz n Q (f a))->zz n Q (t.bind f)
 |.ret a,h,hf=>hf a h
 |.ask _ _ _,h,hf=>⟨h.1,h.2.1,λb=>(h.2.2 b).bind hf⟩
theorem uY{α:Type}{n:Nat}{P:α->Prop}{lt:Nat->Nat->Bool}{cmp:Nat->Nat->(Bool->Shared->Prop)->Shared->Prop}{Q:α->Shared->Prop}{s:Shared}(hc:∀i j C,i<n->j<n->C (lt i j) s->cmp i j C s):∀t:KasT α,zz n P t->Q (gU lt t) s->t.kasWp cmp Q s
 |.ret _,_,h=>h
 |.ask i j k,ok,h=>hc i j _ ok.1 ok.2.1 (uY hc (k (lt i j)) (ok.2.2 _) h)
def o8(n:Nat)(p:Array Nat):Prop:=0<n/\∀x∈p.toList,x<n
theorem o8.at(h:o8 n p)(i:Nat):p.getD i 0<n:=by
 rw[yA];cases e:p[i]? with
 |none=>exact h.1
 |some x=>exact h.2 x (by rw[yB]at e;obtain⟨hi,rfl⟩:=e;simp)
theorem o8.perm(h:o8 n p)(e:p'.Perm p):o8 n p':=⟨h.1,λx hx=>h.2 x ((AV.mp e).mem_iff.mp hx)⟩
theorem o8.rev(h:o8 n p)(i j:Nat):o8 n (kas_rev p i j):=h.perm (mirror_perm _ _ _ _)
theorem o8.bub(h:o8 n p)(i j:Nat):o8 n (bubble p i j):=h.perm (bubble_perm _ _ _)
section
theorem xE(h:o8 N p):∀f n,zz N (λ_=>True) (kas_asc p f n)
 | 0,_=>trivial
 |f+1,n=>⟨h.at _,h.at _,λb=>by cases b <;> first |exact trivial |exact xE h f (n+1)⟩
theorem nL:∀f p n q,o8 N p->zz N (λr=>o8 N r.1) (kas_desc f p n q)
 | 0,_,_,_,h=>h
 |f+1,p,n,q,h=>by
  refine⟨h.at _,h.at _,λb=>?_⟩
  dsimp only;cases b with
  |true=>
   rw[fN rfl];by_cases hq:q > 0
   . rw[fN hq];exact nL f _ _ _ (h.rev _ _)
   . rw[gN hq];exact nL f _ _ _ h
  |false=>
   rw[gN lL];refine⟨h.at _,h.at _,λd=>?_⟩
   cases d with
   |true=>exact h
   |false=>exact nL f _ _ _ h
theorem uZ{p:Array Nat}{n nrem:Nat}(h:o8 N p):zz N (λr=>o8 N r.2) (kas_tail3 n nrem p):=(xE (h.rev 0 n) _ _).bind λ_ _=>h.rev 0 n
theorem mJ{p:Array Nat}{n nrem:Nat}(h:o8 N p):zz N (λr=>o8 N r.2) (kas_descPart n nrem p):=by
 refine (nL _ _ _ _ h).bind λr hr=>?_
 by_cases hq:r.2.2 > 0
 . rw[fN hq];exact uZ (o8.rev hr _ _)
 . rw[gN hq];exact uZ hr
theorem FW{p:Array Nat}{n:Nat}(h:o8 N p):zz N (λr=>o8 N r.2) (kas_count n p):=by
 refine (xE h _ _).bind λm _=>?_
 by_cases e1:(m==n)=true
 . rw[fN e1];exact h
 .
  rw[gN e1];by_cases e2:m > 1
  .
   rw[fN e2];refine⟨h.at _,h.at _,λb=>?_⟩
   cases b with
   |true=>exact h
   |false=>exact mJ (h.rev _ _)
  . rw[gN e2];exact mJ h
theorem o9(h:o8 N p):∀f l r,zz N (λ_=>True) (kas_place p k f l r)
 | 0,_,_=>trivial
 |f+1,l,r=>by
  unfold kas_place;by_cases e:l ≥ r
  . rw[fN e];exact trivial
  .
   rw[gN e];refine⟨h.at _,h.at _,λb=>?_⟩
   cases b with
   |true=>exact o9 h f _ _
   |false=>exact o9 h f _ _
theorem FZ:∀f p k,o8 N p->zz N (λ_=>True) (kas_bin f p k)
 | 0,_,_,_=>trivial
 |f+1,p,k,h=>(o9 h _ _ _).bind λl _=>FZ f _ _ (h.bub _ _)
theorem K6{n:Nat}(h:0<n):zz n (λ_=>True) (kas_sort n):=by
 refine (FW (p:=(List.range n).toArray) ⟨h,λx hx=>by simpa using hx⟩).bind λr hr=>?_
 by_cases e:r.1<n
 . rw[fN e];exact FZ _ _ _ hr
 . rw[gN e];exact trivial
end
open L2 PySem.W
section
variable{α:Type}{key:Nat->α}
noncomputable def dD(s:Shared)(a:Addr)(vs:List Value):Shared:={ s with heap:=((s.heap.update a (Obj.mapSeq λ_=>#[])).push (seqObj "tuple" vs.toArray 0)).push (seqObj "list" #[] 0)}
theorem u0(hb:b≠a)(h:s.heap.get? b=some o):(dD s a vs).heap.get? b=some o:=
 bP _ (bP _ ((i9 s.heap _ hb.symm).trans h))
theorem Ga(ho:s.heap.get? a=some (seqObj "list" vs.toArray n))(h2:2<=vs.length)(h64:vs.length<64)
  (hk:∀Q:SortKind->Shared->Prop,Q κ (dD s a vs)->wpAny (model prog w) A (keyKind' vs.toArray) Q (λ_ _=>False) (dD s a vs))
  (hc:∀i j C,i<vs.length->j<vs.length->C (nG O key i j) (dD s a vs)->kas_ask prog w A κ vs i j C (dD s a vs))
  (h:∀p:Array Nat,p.Perm (List.range vs.length).toArray->jg O key p vs.length->P (.done (.ret .none)) { s with heap:=sortedHeap s.heap a vs (p.toList.map λi=>vs.getD i Value.none).toArray}) :
  wpAny (model prog w) A (Builtin.«list.sort» ⟨[.ref a],[]⟩) P E s:=by
 obtain⟨e1,N8⟩:∃e1,(s.heap.update a (Obj.mapSeq λ_=>#[])).get? a=some (seqObj "list" #[] e1):=⟨_,get?_update_seq ho (λ_=>#[])⟩
 have Xk:(dD s a vs).heap.get? a=some (seqObj "list" #[] e1):=bP _ (bP _ N8);have hz:vs.length<=sizeLine:=(by rw[nK];lia)
 rw[list_sort_plain];refine aS (listItems_at ho rfl (aS (listUpdate_at ho rfl (aS (seqEpoch_at N8 rfl (aS (wpAny_newTuple (aS (B6 (mM ?_) (Ap _))) (by show vs.length<=_;exact hz))))) (by simpa using hz) (Ap _))))
 show wpAny (model prog w) A _ P E (dD s a vs);have hn : ¬ vs.toArray.size<2:=by rw[dC];lia
 dsimp only;rw[gN hn,gN hn];refine aS (l5 (hk (λk s0=>k=κ/\s0=dD s a vs) ⟨rfl,rfl⟩) ?_ λ_ _ z=>z.elim)
 rintro _ _ ⟨rfl,rfl⟩;obtain⟨p0,q1,q2,q3⟩:=K5 (O:=O) (key:=key) (n:=vs.length) ⋯;refine aS (l5 (kat_run (ks:=vs) (vs:=vs) (E:=E) (Q:=λst' s'=>s'=dD s a vs/\failedOf st'=none/\(arrOf st').map (·.2)=(p0.toList.map λi=>vs.getD i Value.none).toArray) (G:=λp s'=>s'=dD s a vs/\p=p0)
  rfl h2 h64 (λp st' s' _ har hf hg=>?_) (uY hc _ (K6 ⋯) ⟨rfl,q1⟩)) ?_ λ_ _ z=>z)
 . obtain⟨rfl,rfl⟩:=hg;exact⟨rfl,hf,kat_snds rfl har⟩
 .
  rintro⟨⟨⟩,st'⟩ s' ⟨rfl,hf,hout⟩;dsimp only at hf hout ⊢
  have aL:(p0.toList.map λi=>vs.getD i Value.none).length=vs.length:=by rw[fR,nE,q2.size_eq];simp
  rw[hout];refine aS (seqEpoch_at Xk rfl (aS (listUpdate_at Xk rfl ?_ (Ap _) (by show (List.toArray _).size<=_;rw[dC,aL];lia))))
  rw[hf];simp only[bne_self_eq_false,AN,CD];exact dE (h p0 q2 q3)
theorem zA{β:Type}:∀l:List β,(l.zip l).map (·.2)=l
 | []=>rfl
 |x::l=>by rw[BD,List.map_cons,zA l]
theorem Gb(ho:s.heap.get? a=some (seqObj "list" vs.toArray n))(h2:vs.length<2)
  (h:P (.done (.ret .none)) { s with heap:=sortedHeap s.heap a vs vs.toArray}):wpAny (model prog w) A (Builtin.«list.sort» ⟨[.ref a],[]⟩) P E s:=by
 obtain⟨e1,N8⟩:∃e1,(s.heap.update a (Obj.mapSeq λ_=>#[])).get? a=some (seqObj "list" #[] e1):=⟨_,get?_update_seq ho (λ_=>#[])⟩
 have Xk:(dD s a vs).heap.get? a=some (seqObj "list" #[] e1):=bP _ (bP _ N8);have hz:vs.length<=sizeLine:=(by rw[nK];lia)
 rw[list_sort_plain];refine aS (listItems_at ho rfl (aS (listUpdate_at ho rfl (aS (seqEpoch_at N8 rfl (aS (wpAny_newTuple (aS (B6 (mM ?_) (Ap _))) (by show vs.length<=_;exact hz))))) (by simpa using hz) (Ap _))))
 show wpAny (model prog w) A _ P E (dD s a vs);have hn:vs.toArray.size<2:=by rw[dC];lia
 dsimp only;rw[fN hn,fN hn];refine aS (dE ?_);rw[StateT.run_pure];refine aS (dE ?_);dsimp only;have hout:(arrOf (SortSt.mk' general' (vs.toArray.zip vs.toArray) #[] 7 none)).map (·.2)=vs.toArray:=by show (vs.toArray.zip vs.toArray).map (·.2)=vs.toArray;apply Array.toList_inj.mp;simp only[Array.toList_map,Array.toList_zip,List.toList_toArray];exact zA vs
 rw[hout];refine aS (seqEpoch_at Xk rfl (aS (listUpdate_at Xk rfl ?_ (Ap _) (by show vs.toArray.size<=_;rw[dC];lia))))
 show wpAny _ _ (if (e1 != e1)=true then _ else _) _ _ _
 rw[gN ⋯];exact dE h
noncomputable def Gd(h:Heap)(vs:List Value):Heap:=((h.push (seqObj "list" #[] 0)).update h.objs.size (Obj.mapSeq (· ++ vs.toArray))).push (seqObj "list" vs.toArray 0)
theorem rF(h:Heap)(vs:List Value):((h.push (seqObj "list" #[] 0)).update h.objs.size (Obj.mapSeq (· ++ vs.toArray))).objs.size=h.objs.size+1:=(A4 ..).trans (size_push' ..)
theorem sV(h:Heap)(vs:List Value):(Gd h vs).get? (h.objs.size+1)=some (seqObj "list" vs.toArray 0):=by have:=eJ ((h.push (seqObj "list" #[] 0)).update h.objs.size (Obj.mapSeq (· ++ vs.toArray))) (o:=seqObj "list" vs.toArray 0) rfl;rw[rF]at this;exact this
theorem u5(e:h.get? b=some o):(Gd h vs).get? b=some o/\b≠h.objs.size+1:=by have hb:b<h.objs.size:=eP e;refine⟨bP _ ?_,l4 (Nat.lt_succ_of_lt hb)⟩;rw[i9 _ _ (y6 hb)];exact bP _ e
theorem By(hl:s.heap.IsList l vs.toArray\/IsTup s.heap l vs.toArray)(hz:vs.length<=sizeLine)
  (h:wpAny (model prog w) A.in1.in1 (Builtin.«list.sort» ⟨[.ref (s⁻¹+1)],[]⟩) (λf s'=>f=.done (.ret .none)/\Q (.ref (s⁻¹+1)) s') E { s with heap:=Gd s.heap vs}) :
  wpAny (model prog w) A (call (.builtin "sorted") [.ref l]) Q E s:=by
 refine Calls.call_function_entry kind_sorted plain_sorted entry_sorted (args_sorted1 _) ?_;unfold Builtin.«sorted»;have go:wpAny (model prog w) A.in1 (collect (.ref l)) (λvs' s'=>vs'=vs/\s'={ s with heap:=(s.heap.push (seqObj "list" #[] 0)).update s⁻¹ (Obj.mapSeq (· ++ vs.toArray))}) E s:=by
  rcases hl with hl |hl
  . exact collect_list hl ⟨rfl,rfl⟩ hz
  . exact jl hl ⟨rfl,rfl⟩ hz
 refine aS (m:=checkCount "sorted" 1 1 _) (dE (aS (l5 go ?_ λ_ _ z=>z)))
 rintro _ _ ⟨rfl,rfl⟩;refine aS (B6 ?_ hz);show wpAny _ _ _ _ _ { s with heap:=Gd s.heap _};rw[rF];refine aS (mM (tS slot_list_sort ⟨_,sV _ _,rfl⟩ entry_list_sort (l5 h (λf s' hf=>⟨_,hf.1,?_⟩) λ_ _ z=>z) (args_list_sort _)))
 exact dE ⟨_,rfl,hf.2⟩
end
theorem lB:∀a:List Int,HT.lexLt a a=false
 | []=>rfl
 |x::a=>by rw[HT.dg,fN rfl,lB a]
theorem u6:∀a b c:List Int,HT.lexLt a b=true->HT.lexLt b c=true->HT.lexLt a c=true
 | [],[],_,h,_=>by cases h
 |_::_,[],_,h,_=>by cases h
 |_,_::_,[],_,h=>by cases h
 | [],_::_,_::_,_,_=>rfl
 |x::a,y::b,z::c,h1,h2=>by
  rw[HT.dg]at h1 h2 ⊢
  by_cases e1:x=y
  .
   rw[fN e1]at h1;subst e1;by_cases e2:x=z
   .
    rw[fN e2]at h2 ⊢
    exact u6 a b c h1 h2
   .
    rw[gN e2]at h2 ⊢
    exact h2
  .
   rw[gN e1]at h1;have h1':=lS h1;by_cases e2:y=z
   . rw[fN e2]at h2;subst e2;rw[gN e1];exact h1
   . rw[gN e2]at h2;have h2':=lS h2;rw[gN ⋯];exact xI ⋯
theorem lC:∀a b:List Int,HT.lexLt a b=false->HT.lexLt b a=false->a=b
 | [],[],_,_=>rfl
 | [],_::_,h,_=>by cases h
 |_::_,[],_,h=>by cases h
 |x::a,y::b,h1,h2=>by
  rw[HT.dg]at h1 h2;by_cases e:x=y
  . subst e;rw[fN rfl]at h1 h2;rw[lC a b h1 h2]
  .
   rw[gN e]at h1;rw[gN (λz=>e z.symm)]at h2
   have:=of_decide_eq_false h1;have:=of_decide_eq_false h2;lia
def dF:jO (List Int):=⟨HT.lexLt,lB,u6,lC⟩
section
variable{α:Type}(O:jO α)
noncomputable def BG(a:α):List α->List α
 | []=>[a]
 |b::l=>if O.lt b a then b::BG a l else a::b::l
def bK:List α->List α
 | []=>[]
 |a::l=>BG O a (bK l)
variable{O}
theorem lD(a:α):∀l:List α,(BG O a l).Perm (a::l)
 | []=>x0 _
 |b::l=>by
  unfold BG;split
  . exact ((lD a l).cons b).trans (List.Perm.swap a b l)
  . exact x0 _
theorem cG:∀l:List α,(bK O l).Perm l
 | []=>x0 _
 |a::l=>(lD a _).trans ((cG l).cons a)
theorem mK(a:α):∀{l:List α},l.Pairwise O.le->(BG O a l).Pairwise O.le
 | [],_=>List.pairwise_singleton _ _
 |b::l,h=>by
  obtain⟨h1,h2⟩:=y7.mp h;unfold BG;cases e:O.lt b a with
  |true=>
   rw[fN rfl];refine y7.mpr ⟨λx hx=>?_,mK a h2⟩
   rcases d6.mp ((lD a l).mem_iff.mp hx)with rfl |hx
   . exact jO.le_of_lt e
   . exact h1 x hx
  |false=>
   rw[gN lL];refine y7.mpr ⟨λx hx=>?_,h⟩
   rcases d6.mp hx with rfl |hx
   . exact e
   . exact jO.rE (show O.le a b from e) (h1 x hx)
theorem gD:∀l:List α,(bK O l).Pairwise O.le
 | []=>List.Pairwise.nil
 |a::l=>mK a (gD l)
theorem pg(hp:m.Perm l)(hs:m.Pairwise O.le):m=bK O l:=
 (hp.trans (cG l).symm).eq_of_pairwise (λx y _ _ h1 h2=>jO.zq h1 h2) hs (gD l)
theorem eV{β:Type}(ks:List β)(d:β):(List.range ks.length).map (λi=>ks.getD i d)=ks:=by
 refine List.ext_getElem ⋯ λi h1 h2=>?_
 simp[oC h2]
theorem u9(hp:p.Perm (List.range ks.length).toArray)(hr:jg O (λi=>ks.getD i d) p ks.length):p.toList.map (λi=>ks.getD i d)=bK O ks:=by
 have hl:=AV.mp hp;refine pg ((hl.map _).trans (by rw[List.toList_toArray,eV])) ?_
 rw[List.pairwise_iff_getElem];intro i j hi hj hij;have hs:p.size=ks.length:=by rw[hp.size_eq];simp
 rw[fR,nE]at hi hj;have:=hr i j (CC hij) ⋯;unfold dJ at this;have e1:p.getD i 0=p[i]:=by simp[Array.getD,hi]
 have e2:p.getD j 0=p[j]:=by simp[Array.getD,hj]
 rw[e1,e2]at this;simpa using this
end
open L2 PySem.W
section
theorem Ge(hv:IntsAre vs ns):∀{ws:List Value}{ms:List Int} (i:Nat),IntsAre ws ms->fin=decide (ns.length<ms.length)->Q (HT.lexLt ns ms) s->KatLex prog w A true fin Q (vs.zip ws) i s:=by
 induction hv with
 |nil=>
  intro ws ms i hu hf h;rw[List.zip_nil_left];refine kat_nil ?_;rw[hf];cases hu with
  |nil=>exact h
  |cons _=>exact h
 |@cons n t vs ns hv ih=>
  intro ws ms i hu hf h;cases hu with
  |nil=>rw[List.zip_nil_right];refine kat_nil ?_;rw[hf];exact h
  |@cons m t' us ms hu=>
   rw[BD];refine kat_cons (wpAny_eqBool_int (kat_go (λe=>?_) (λe=>?_)))
   .
    have e':n=m:=eq_of_beq e;refine kat_yes (ih (i+1) hu (by rw[hf];simp) ?_)
    rw[HT.dg,fN e']at h;exact h
   .
    have e':n≠m:=λq=>by rw[q]at e;simp at e
    rw[HT.dg,gN e']at h;refine kat_no ?_;cases i with
    |zero=>exact oneLt_int h
    |succ i=>exact kat_one _ _ (lt_int h)
def Gf(h:Heap)(v:Value)(ns:List Int):Prop:=∃a aj,v=.ref a/\IsTup h a aj/\IntsAre aj.toList ns
theorem Gf.keep(x:Gf h v ns)(k:∀b o,h.get? b=some o->h'.get? b=some o):Gf h' v ns:=let ⟨a,its,e,t,i⟩:=x;⟨a,its,e,t.keeps k,i⟩
inductive TupIs(h:Heap):List Value->List (List Int)->Prop
 |nil:TupIs h [] []
 |cons {v:Value}{ns:List Int}{vs:List Value}{dO:List (List Int)}:Gf h v ns->TupIs h vs dO->TupIs h (v::vs) (ns::dO)
theorem TupIs.keep(k:∀b o,h.get? b=some o->h'.get? b=some o)(t:TupIs h vs dO):TupIs h' vs dO:=by
 induction t with
 |nil=>exact .nil
 |cons a b ih=>exact .cons (a.keep k) ih
theorem TupIs.length(t:TupIs h vs dO):vs.length=dO.length:=by
 induction t with
 |nil=>rfl
 |cons a b ih=>exact congrArg (· + 1) ih
theorem TupIs.at(t:TupIs h vs dO)(hi:i<vs.length):Gf h (vs.getD i .none) (dO.getD i []):=by
 induction t generalizing i with
 |nil=>exact absurd hi (BH _)
 |cons a b ih=>cases i with
  |zero=>exact a
  |succ i=>exact ih (AK hi)
theorem TupIs.firsts(t:TupIs h vs dO)(fz:∀ns∈dO,ns≠[]):∃fs:List Value,KatTups h vs fs/\fs.length=vs.length/\∀v∈fs,∃i t,v=.int i t:=by
 induction t with
 |nil=>exact⟨[],.nil,rfl,λ_ z=>nomatch z⟩
 |@cons v ns vs dO a b ih=>
  obtain⟨fs,q1,q2,q3⟩:=ih λns hn=>fz ns (a9 _ hn)
  obtain⟨a,aj,e,⟨o,e1,e2,n,e3⟩,hi⟩:=a;subst e;obtain⟨aj⟩:=aj;cases aj with
  |nil=>
   cases ns with
   |nil=>exact absurd rfl (fz [] dA)
   |cons _ _=>cases hi
  |cons v aj=>
   cases ns with
   |nil=>cases hi
   |cons m ns=>cases hi;exact⟨_::fs,KatTups.cons e1 e2 e3 rfl q1,by rw[l6,l6,q2],λv hv=>(d6.mp hv).elim (λz=>⟨_,_,z⟩) (q3 v)⟩
theorem BJ:Looks M h (typeOf (.int i t)) (.type "int"):=.now
theorem vd(hl:s.heap.IsList l vs.toArray\/IsTup s.heap l vs.toArray)(ht:TupIs s.heap vs dO)(fz:∀ns∈dO,ns≠[])(h64:vs.length<64)
  (h:∀p:List Nat,p.Perm (List.range vs.length)->p.map (λi=>dO.getD i [])=bK dF dO->Q (.ref (s⁻¹+1)) { s with heap:=sortedAll s.heap vs (p.map λi=>vs.getD i Value.none).toArray}) :
  wpAny (model prog w) A (call (.builtin "sorted") [.ref l]) Q E s:=by
 have hz:vs.length<=sizeLine:=by rw[nK];lia
 refine By hl hz ?_;have aL:=ht.length;by_cases h2:vs.length<2
 .
  refine Gb (sV _ _) h2 ⟨rfl,?_⟩;have:=h (List.range vs.length) (x0 _) (by
   rw[aL,eV]
   match dO,aL with
   | [],_=>rfl
   | [x],_=>rfl
   |_::_::_,hl2=>rw[hl2,l6,l6]at h2;lia)
  rw[eV]at this;exact this
 .
  have keep:∀b o,s.heap.get? b=some o->(dD { s with heap:=Gd s.heap vs} (s⁻¹+1) vs).heap.get? b=some o:=λb o e=>u0 (u5 (vs:=vs) e).2 (u5 e).1
  have ht':=ht.keep keep;refine Ga (κ:=tuples' true) (O:=dF) (key:=λi=>dO.getD i []) (sV _ _) ⋯ h64 (λQ' hq=>?_) (λi j C hi hj hC=>?_) λp hp hr=>⟨rfl,?_⟩
  . obtain⟨fs,q1,q2,q3⟩:=ht'.firsts fz;exact kat_kind (T:=.type "int") q1 ⋯ (λv hv=>by obtain⟨i,t,rfl⟩:=q3 v hv;exact BJ) ⋯ hq
  . obtain⟨a,its,e,⟨o,e1,e2,n,e3⟩,q⟩:=ht'.at hi;obtain⟨b,kM,e',⟨o2,e4,e5,n2,e6⟩,q'⟩:=ht'.at hj;show wpAny _ _ (keyLt' (tuples' true) (vs.getD i Value.none) (vs.getD j Value.none)) C _ _;rw[e,e'];refine kat_lt e1 e3 e4 e6 (Ge q 0 q' ?_ hC);rw[<- q.length,<- q'.length];simp
  . rw[aL]at hp hr;exact h p.toList (by rw[aL];exact (AV.mp hp).trans ⋯) (u9 hp hr)
end
section
def iC:List D->Option (List (List Int))
 | []=>some []
 |.tup l::ds=>match cJ l,iC ds with |some (n::ns),some dO=>some ((n::ns)::dO) |_,_=>none
 |_::_=>none
inductive mL(K:Frag)(H:Hp):List V->List (List Int)->Prop
 |nil:mL K H [] []
 |cons {a:Addr}{ns:List Int}{vs:List V}{dO:List (List Int)}:g7 K H a (ns.map V.int)->mL K H vs dO->mL K H (.ref a::vs) (ns::dO)
theorem mL.real(I:L2.Inv X ah σ H s)(t:mL X.K H xs dO):∀{its:List Value},Vals xs its->TupIs s.heap its dO:=by
 induction t with
 |nil=>intro its r;cases r;exact .nil
 |cons q _ ih=>
  intro its r;cases r with
  |cons r rs=>cases r;obtain⟨kM,r2,p,_⟩:=I.tuple q;exact .cons ⟨_,_,rfl,p,by simpa using intsAre_of r2⟩ (ih rs)
theorem BK(h:Vals xs us):∀{i:Nat},i<xs.length->RelV (xs.getD i .non) (us.getD i .none):=by
 induction h with
 |nil=>intro i hi;exact absurd hi (BH _)
 |cons r _ ih=>
  intro i hi;cases i with
  |zero=>exact r
  |succ i=>exact ih (by simpa using hi)
theorem rG(h:Vals xs us):∀{p:List Nat},(∀i∈p,i<xs.length)->Vals (p.map λi=>xs.getD i .non) (p.map λi=>us.getD i .none)
 | [],_=>.nil
 |i::p,hp=>.cons (BK h (hp i dA)) (rG h λj hj=>hp j (a9 _ hj))
theorem sW:fC X (.builtin "sorted") (λxs H Q=>∃p ys dO,xs=[.ref p]/\(bZ X.K H p ys\/g7 X.K H p ys)/\mL X.K H ys dO/\(∀ns∈dO,ns≠[])/\ys.length<64/\
  ∀q (o:List Nat),H q=none->(∀i∈o,i<ys.length)->o.map (λi=>dO.getD i [])=bK dF dO->Q (.ref q) (upd H q (.lst (o.map λi=>ys.getD i .non)))):=by
 intro ah s σ H xs us Q I r h;obtain⟨p,ys,dO,rfl,hq,ht,fz,hl,q⟩:=h;obtain⟨u,rfl,rx⟩:=vals1 r;cases rx;have fin:∀its:List Value,Vals ys its->(s.heap.IsList p its.toArray\/IsTup s.heap p its.toArray)->wpAny (model X.prog X.w) X.A (call (.builtin "sorted") [.ref p]) (EP X ah σ Q) X.xe s:=λits r' pl=>by
  have aL:=r'.length;refine vd pl (ht.real I r') fz ⋯ λo ho hs=>?_
  obtain⟨ep,he⟩:=sortedAll_at s.heap its (o.map λi=>its.getD i Value.none).toArray
  have hin:∀i∈o,i<ys.length:=λi hi=>by rw[aL];exact sT.mp (ho.mem_iff.mp hi)
  have ZD:o.length=ys.length:=by rw[ho.length_eq,List.length_range,aL]
  refine⟨.ref (s⁻¹+1),_,I.laid (t':=s.toks) (o:=.lst (o.map λi=>ys.getD i .non)) (λb ob e=>sortedAll_old e) (AQ _) ?_,rfl,q _ o (I.hok.fresh (AQ _)) hin hs⟩
  refine⟨by rw[fR,nK];lia,_,ep,rG r' hin,he⟩
 rcases hq with hq |hq
 . obtain⟨its,r',pl,hz⟩:=I.list hq;exact fin its r' (.inl pl.isList)
 . obtain⟨its,r',pl,hz⟩:=I.tuple hq;exact fin its r' (.inr pl)
theorem K7(e:cJ l=some ns):l=ns.map .int:=by
 induction l generalizing ns with
 |nil=>cases e;rfl
 |cons d l ih=>cases d with
  |int i=>
   have e:(match cJ l with |some ns=>some (i::ns) |none=>none)=some ns:=e
   cases e2:cJ l with
   |none=>rw[e2]at e;cases e
   |some ms=>rw[e2]at e;cases e;rw[List.map_cons,<- ih e2]
  |_=>cases e
theorem BL{K:Frag}{M:List Addr}{H:Hp}{l:List D}{xs:List V}{dO:List (List Int)}(q:aI K M H l xs)(e:iC l=some dO):mL K H xs dO/\(∀ns∈dO,ns≠[])/\l=dO.map λns=>.tup (ns.map .int):=by
 induction l generalizing xs dO with
 |nil=>cases q;cases e;exact⟨.nil,λ_ z=>(nomatch z),rfl⟩
 |cons d l ih=>cases q with |cons r q=>cases d with
  |tup m=>
   unfold iC at e;split at e
   .
    rename_i n ns dO e1 e2;cases e;obtain⟨t1,t2,t3⟩:=ih q e2;cases r with
    |tup ha rr=>
     have:=eF rr e1;subst this;refine⟨.cons ha.sq t1,λx hx=>(d6.mp hx).elim (λz=>by rw[z];exact List.cons_ne_nil _ _) (t2 x),?_⟩
     rw[List.map_cons,<- t3,K7 e1]
   . cases e
  |_=>cases e
theorem aI.pick{K:Frag}{M:List Addr}{H:Hp}{ds:List D}{vs:List V}(h:aI K M H ds vs):∀{o:List Nat},(∀i∈o,i<vs.length)->aI K M H (o.map λi=>ds.getD i .non) (o.map λi=>vs.getD i .non)
 | [],_=>.nil
 |i::o,ho=>by
  refine .cons ?_ (h.pick λj hj=>ho j (a9 _ hj))
  have hi:=ho i dA;have hd:i<ds.length:=by rw[h.length];exact hi
  obtain⟨v,e1,e2⟩:=h.get (i:=i) (d:=ds[i]) (by simp[hd])
  have q1:ds.getD i .non=ds[i]:=by simp[hd]
  have q2:vs.getD i .non=v:=by rw[l9,e1];rfl
  show Rep K M H (ds.getD i .non) (vs.getD i .non);rw[q1,q2];exact e2
theorem xF{d:D}{l:List D}{dO:List (List Int)}(hK:z.K=X.K)(h:cW d=some l)(hi:iC l=some dO)(hl:dO.length<64):CallD X z (.builtin "sorted") [d] (.new ((bK dF dO).map λns=>.tup (ns.map .int))):=by
 refine⟨_,sW,λg σ As M H vs Q s p k=>?_⟩
 obtain⟨v,rfl,pv⟩:=p.one;have main:∀(a:Addr) (xs:List V),aI z.K M H l xs->(bZ X.K H a xs\/g7 X.K H a xs)->∃p ys dO,[V.ref a]=[.ref p]/\(bZ X.K H p ys\/g7 X.K H p ys)/\mL X.K H ys dO/\(∀ns∈dO,ns≠[])/\ys.length<64/\
   ∀q (o:List Nat),H q=none->(∀i∈o,i<ys.length)->o.map (λi=>dO.getD i [])=bK dF dO->Q (.ref q) (upd H q (.lst (o.map λi=>ys.getD i .non))):=λa xs rr hq=>by
  obtain⟨t1,t2,t3⟩:=BL rr hi;have aL:xs.length=dO.length:=by rw[<- rr.length,t3,fR]
  refine⟨a,xs,dO,rfl,hq,hK▸t1,t2,by lia,λq o hf hin hs=>?_⟩
  have e:((bK dF dO).map λns=>D.tup (ns.map .int))=o.map λi=>l.getD i .non:=by
   rw[<- hs,List.map_map];refine sK λi hi=>?_
   have:i<dO.length:=by rw[<- aL];exact hin i hi
   rw[t3];simp[this]
  have rr':=(rr.pick hin).stay (aq.aQ (o:=.lst (o.map λi=>xs.getD i .non)) hf)
  refine k _ _ As (q::M) (s.aQ hf) (aq.aQ hf) ⟨q,_,rfl,dA,λhA=>s.fresh hf (s.sub q hA),s.bW hf,aA,?_⟩
  rw[e];exact rr'
 cases d with
 |lst m=>cases h;obtain⟨a,xs,rfl,e1,e2⟩:=pv.list;exact main a xs e2 (.inl (bZ.of e1))
 |tup m=>cases h;obtain⟨a,xs,rfl,e1,e2⟩:=pv.tup;exact main a xs e2 (.inr (hK▸e1.sq))
 |fix m=>cases h;obtain⟨a,xs,rfl,e1,e2⟩:=pv.fix;exact main a xs e2 (.inl (hK▸e1.sq))
 |_=>cases h
end
open L2 PySem.W
open L2 PySem.W
open L2 PySem.W SeqAt
open L2 PySem.W SeqAt
open L2 PySem.W SeqAt
open L2 PySem.W SeqAt
noncomputable def Its(lo c:Int)(n:Nat):It:=⟨λi _=>i<n,λi H x H'=>H'=H/\x=.int (lo+i * c),λi _=>n<=i⟩
theorem BP{P:Program}{w:World}{K:Frag}{tg:Expr}(it:Addr)(lo c:Int)(n:Nat):Turn P w K tg (Its lo c n) [it] it (λi h=>IsRangeIter h it (lo+(i:Nat) * c) ((n:Int) - (i:Nat)) c) where
 mem:=by simp
 obj:=λi h st b hb=>by
  cases fA.mp hb;exact⟨_,st,λv z=>nomatch (show Data.fields _=Data.cell v from z)⟩
 keep:=λi h h' st k=>k it ⋯ _ st
 item:=by
  intro X hP hw hK hc i ah s σ H E I hf st hg;subst hP hw hK;obtain⟨f0,f1,f2,f3,f4,f5⟩:=hf it ⋯;refine (Walks.range (prog:=X.prog) (w:=X.w) (I.ok.hd hc) it lo c n).item i s _ _ hg st λv h' tk hv st' kk=>?_
  obtain⟨t,rfl⟩:=hv;refine⟨_,rfl,yR (s:={ s with heap:=h',toks:=tk}) (n:= "range_iterator") st' rfl rfl ⋯ ⟨.int (lo+i * c),H,?_,⟨t,rfl⟩,⟨rfl,rfl⟩,st',λb hb=>(hf b hb).1⟩⟩
  exact I.turned (λb o hb e=>kk b o (by simpa using hb) e) f0 f1 f3 f4 f5
 done:=by intro X hP hw hK hc i ah s σ H E I hf st hg;subst hP hw hK;obtain⟨f0,f1,f2,f3,f4,f5⟩:=hf it ⋯;exact wpAny_pyNext_range_end (I.ok.hd hc) st (by have:n<=i:=hg;lia) λh' eb=>⟨rfl,I.turned (t':=s.toks) (λb o hb e=>eb b o hb e) f0 f1 f3 f4 f5⟩
 self:=λ_ _ _ _ _ st h=>wpAny_pyIter_rangeiter st h
noncomputable def qF(lo c:Int)(n:Nat):List D:=(List.range n).map λ(k:Nat)=>D.int (lo+(k:Int) * c)
theorem ve(lo c:Int)(n:Nat):(qF lo c n).length=n:=by simp[qF]
theorem Gg{lo c:Int}{n k:Nat}(h:k<n):(qF lo c n)[k]?=some (.int (lo+(k:Int) * c)):=by simp[qF,h]
theorem Rz{lo c:Int}{n:Nat}{K:Frag}{M:List Addr}{H:Hp}:Jt (Its lo c n) (qF lo c n) K M H:=λM2 H2 _=>by
 refine⟨λk d hd=>?_,?_⟩
 .
  have hk:k<n:=by have:=(b0.mp hd).1;rw[ve]at this;exact this
  rw[Gg hk]at hd;cases hd;refine⟨hk,λx H' hx z' g' σ' aC _ s'=>?_⟩
  obtain⟨rfl,rfl⟩:=hx;exact⟨s',aq.refl _ _,.int _⟩
 . show n<=(qF lo c n).length;rw[ve];exact dS _
noncomputable def lE(lo hi c:Int):Nat:=if lo<hi then ((hi - lo - 1) / c+1).toNat else 0
theorem zB{lo hi c:Int}(hc:0<c):Builtin.Range.rangeSize lo hi c=(lE lo hi c:Int):=by
 unfold Builtin.Range.rangeSize lE;rw[fN hc];split
 . have:0<=(hi - lo - 1) / c:=Int.ediv_nonneg ⋯ ⋯;lia
 . rfl
theorem xG{a b c:Int}(h1 : -(2 ^ 30)<=a/\a<2 ^ 30)(h2 : -(2 ^ 30)<=b/\b<2 ^ 30)(h3:0<c/\c<2 ^ 30):Builtin.Range.small a b c=true:=by
 have hn:=zB (lo:=a) (hi:=b) h3.1;unfold Builtin.Range.small;rw[hn];have hb:(lE a b c:Int)<=2 ^ 31+1:=by
  unfold lE;split
  . have:(b - a - 1) / c<=b - a - 1:=Int.ediv_le_self _ ⋯;lia
  . decide
 have hm:(lE a b c:Int) * c<=(2 ^ 31+1) * 2 ^ 30:=Int.mul_le_mul hb ⋯ ⋯ ⋯;have hm0:0<=(lE a b c:Int) * c:=Int.mul_nonneg ⋯ ⋯;have hc0:c > 0:=h3.1;simp only[Builtin.Range.rangeFitsLong,eC,AF,hU,beq_iff_eq,hc0,wS];lia
section
theorem dZ.of (h:∀(ah:List (Addr×Obj)) (s:Shared) (σ:Sg) (As M:List Addr) (H:Hp) (Post:Value->Shared->Prop),L2.Inv X ah σ H s->S z g σ As M H->
  (∀v s1,(∀(R:It->Hp->Prop),(∀J H' aC M',S z g1 σ aC M' H'->aq M H M' H'->Jt J aj z.K M' H'->R J H')->wpAny (model X.prog X.w) X.A (pyIter v) (PIE X ah σ tg R) X.xe s1)->Post v s1)->wpAny (model X.prog X.w) X.A (eval iter X.env) Post X.xe s):dZ X z tg iter g aj g1:=
 ⟨λσ H R=>∃As M,S z g σ As M H/\(∀J H' aC M',S z g1 σ aC M' H'->aq M H M' H'->Jt J aj z.K M' H'->R J H'),λah s σ H R I ⟨As,M,st,k⟩=>h ah s σ As M H _ I st λv s1 q=>q R k,λσ As M H R s k=>⟨As,M,s,k⟩⟩
theorem K8{lo hi st:Int}(h:cO X z [a,b,c] g [.dat (.int lo),.dat (.int hi),.dat (.int st)] g1)(hg:Gl X "range")(hm:X.mg "range"=none)(hs:starEach [a,b,c] X.env=(false,eval a X.env)::starEach [b,c] X.env)(gQ:(backTo rp (starEach [b,c] X.env)).any (·.1)=false)
  (h1 : -(2 ^ 30)<=lo/\lo<2 ^ 30) (h2 : -(2 ^ 30)<=hi/\hi<2 ^ 30) (h3:0<st/\st<2 ^ 30):dZ X z tg (.Call (.Name "range" p) [a,b,c] [] rp) g (qF lo st (lE lo hi st)) g1:=by
 refine dZ.of λah s σ As M H Post I Xl k=>?_
 refine Call_ (fK I hg hm boot_range (mE (h.run I Xl λvs us s1 H1 aO M1 I1 r1 q1 q2 q3=>?_) hs gQ))
 cases q3 with
 |dat r R=>
  cases R with
  |dat r' R=>
   cases R with
   |dat r'' R=>
    cases R;cases r;cases r';cases r'';cases r1 with
    |cons r rr=>
     cases rr with
     |cons r' rr=>
      cases rr with
      |cons r'' rr=>
       cases rr;obtain⟨t,rfl⟩:=r;obtain⟨t',rfl⟩:=r';obtain⟨t'',rfl⟩:=r'';refine call_range_3 ⋯ (k _ _ λR kR=>?_) (.inl (PyProof.noPylong_small ⋯))
       refine wpAny_pyIter_range (IsRange.new ..) (xG h1 h2 h3) ?_;generalize hh:s1.heap.push { cls:=.type "range",data:=.fields #[.int lo t,.int hi t',.int st t'']}=hp;have I2:L2.Inv X ah σ H1 { s1 with heap:=hp}:=I1.kept λb o e=>hh▸bP _ e
       refine⟨hp.objs.size,[hp.objs.size],_,Its lo st (lE lo hi st),H1,rfl,I2.kept (t':=s1.toks) λb o e=>bP _ e,BP _ lo st _,?_,λb hb=>?_,kR _ H1 aO M1 q1 q2 Rz⟩
       .
        show IsRangeIter _ _ (lo+((0:Nat):Int) * st) (((lE lo hi st:Nat):Int) - ((0:Nat):Int)) st;rw[show lo+((0:Nat):Int) * st=lo by simp,show ((lE lo hi st:Nat):Int) - ((0:Nat):Int)=Builtin.Range.rangeSize lo hi st by rw[zB h3.1];simp]
        exact eJ _ rfl
       . cases fA.mp hb;exact I2.uI (dS _) (I2.hok.fresh (dS _))
end
open L2 PySem.W SeqAt
section
theorem xH(hit:s.heap.IsTupleIter it t i)(ht:s.heap.IsTuple t aj)(hx:aj[i]?=some x)(hQ:∀h',h'.IsTupleIter it t (i+1)->Heap.SameBut it s.heap h'->Q x { s with heap:=h'}):wpAny (model prog w) A (Builtin.SmallTypes.nextOf (.ref it)) Q E s:=by
 obtain⟨o,ho,hc,hd⟩:=id hit;obtain⟨ol,ZD,_,nl,hdl⟩:=ht;unfold Builtin.SmallTypes.nextOf;refine aS (o6 (name:=Str.ofString "__next__") hit.typeIs yY (tS yY hit.typeIs F.entry_tuple_iterator_next ?_ (F.args_tuple_iterator_next_1 _)));show wpAny _ _ (field (.ref it) 0 >>= _) _ _ s;refine aS (mI ho hd (x:=.ref t) rfl ?_);show wpAny _ _ (if (Value.ref t==Value.none)=true then _ else _) _ _ s
 rw[gN (show ¬ ((Value.ref t==Value.none)=true)from lL)]
 show wpAny _ _ (field (.ref it) 1 >>= _) _ _ s;refine aS (mI ho hd (x:=.int i 0) rfl ?_);show wpAny _ _ (seqItems? (.ref t) >>= _) _ _ s;refine aS (At ZD hdl ?_);simp only[pE,hx];refine aS (AX ho hd ⋯ (dE ⟨x,rfl,dE (hQ _ ⟨_,oS _ ho (u4 (v6 hd _)),(Obj.cls_mapFields ..).trans hc,?_⟩ (Heap.SameBut.update ..))⟩));rw[v6 hd];simp[rawInt]
theorem qG(hh:A.handled=none)(hit:s.heap.IsTupleIter it t i)(ht:s.heap.IsTuple t aj)(hx:aj[i]?=none)
  (hE:∀h' e,Heap.ExtBut it s.heap h'->(∃o,h'.get? e=some o/\o.cls=.type "StopIteration")->E (.ref e) { s with heap:=h'}):wpAny (model prog w) A (Builtin.SmallTypes.nextOf (.ref it)) Q E s:=by
 obtain⟨o,ho,hc,hd⟩:=id hit;obtain⟨ol,ZD,_,nl,hdl⟩:=ht;unfold Builtin.SmallTypes.nextOf;refine aS (o6 (name:=Str.ofString "__next__") hit.typeIs yY (tS yY hit.typeIs F.entry_tuple_iterator_next ?_ (F.args_tuple_iterator_next_1 _)));show wpAny _ _ (field (.ref it) 0 >>= _) _ _ s;refine aS (mI ho hd (x:=.ref t) rfl ?_);show wpAny _ _ (if (Value.ref t==Value.none)=true then _ else _) _ _ s
 rw[gN (show ¬ ((Value.ref t==Value.none)=true)from lL)]
 show wpAny _ _ (field (.ref it) 1 >>= _) _ _ s;refine aS (mI ho hd (x:=.int i 0) rfl ?_);show wpAny _ _ (seqItems? (.ref t) >>= _) _ _ s;refine aS (At ZD hdl ?_);simp only[pE,hx];refine aS (CO (aS (AX ho hd ⋯ ?_)));show wpAny _ _ (newExc (.type "StopIteration") [] >>= _) _ _ _;refine aS ?_;simp only[newExc,newTuple];refine aS (n0 (aS (m:=firstArgMember _ _) (wpAny_of_eq (a:=Value.none) (by first |rfl | (simp only[firstArgMember];rfl)) (n0 ?_ (by size_fits)))) (by size_fits))
 simp only[raiseNew];refine aS (wpAny_handled ?_)
 first |rw[show A.in1.handled=none from hh] |rw[hh]
 exact aS (dE (wpAny_throw (hE _ _ (((Heap.SameBut.update ..).extBut.push _).push _) ⟨_,eJ _ rfl,rfl⟩)))
theorem RB(hh:A.handled=none)(it t:Addr)(fz:t≠it)(aj:Array Value):Draws prog w A it [it,t] aj.size (λi v=>aj[i]?=some v) (λi h=>h.IsTupleIter it t i/\h.IsTuple t aj) where
 live:=λ_ _ st=>let ⟨o,ho,_⟩:=st.1;⟨o,ho⟩
 frame:=λ_ _ _ st hk=>by
  obtain⟨⟨o,ho,r⟩,⟨o',ho',r'⟩⟩:=st;exact⟨⟨o,hk it ⋯ o ho,r⟩,⟨o',hk t ⋯ o' ho',r'⟩⟩
 item:=λi s Q E hi st hQ=>xH st.1 st.2 (x:=aj[i]) (by simp[hi]) λh' hit' hs'=>hQ _ h' s.toks (by simp[hi]) ⟨hit',IsTup.extBut st.2 hs'.extBut fz⟩ hs'
 done:=λs Q E st hE=>qG hh st.1 st.2 ⋯ hE
theorem vf(l:Addr)(aj:Array Value)(n:Nat)(dct:Option Addr)(sl:Array (Option Value)) :
  Meets (Builtin.«enumerate.__new__» ⟨[.type "enumerate",.ref l],[]⟩) (λ_ R s=>s.heap.get? l=some { cls:=.type "tuple",dict:=dct,data:=.seq aj n,slots:=sl}/\R (.ok (.ret (.ref (s.heap.push { cls:=.type "tuple_iterator",data:=.fields #[.ref l,.int 0 0]}).objs.size)))
    { s with heap:=(s.heap.push { cls:=.type "tuple_iterator",data:=.fields #[.ref l,.int 0 0]}).push { cls:=.type "enumerate",data:=.fields #[.none,.bool false,.ref s⁻¹,rawInt 0,.none,.none]}}):=
 .of_wp λprog w A R s h=>by
  obtain⟨hp,g,d,tk,os⟩:=s;obtain⟨hl,h⟩:=h;have hsub:=sub_enumerate;have hL:Heap.IsTuple (Shared.heap ⟨hp,g,d,tk,os⟩) l aj:=⟨_,hl,rfl,n,rfl⟩
  wp_walk using BB hl
  refine wpAny_stack_any λst=>dE ?_
  split
  . rename_i c _ _ _ _ _;cases (c==Value.type "enumerate") <;> (wp_walk using BB hl,AL hL;exact⟨_,rfl,h⟩)
  .
   wp_walk using BB hl,AL hL
   exact⟨_,rfl,h⟩
theorem xJ(hL:s.heap.IsTuple l aj)
  (h:∀h',IsEnum h' (s⁻¹+1) s⁻¹ 0 .none->h'.IsTupleIter s⁻¹ l 0->h'.objs.size=s⁻¹+2->(∀b o,s.heap.get? b=some o->h'.get? b=some o)->Q (.ref (s⁻¹+1)) { s with heap:=h'}) :
  wpAny (model prog w) A (call (.type "enumerate") [.ref l]) Q E s:=by
 obtain⟨⟨c,dct,dt,sl⟩,hl,hc,n,hd⟩:=hL;cases (show c=.type "tuple" from hc)
 cases (show dt=.seq aj n from hd)
 refine callType_new F.called_enumerate ⋯ (F.typeCall_enumerate_1 _) (F.newCall_enumerate_1 _) (λobj=>F.args_object_init_2 obj _) F.entry_enumerate_new (vf l aj n dct sl) ⟨hl,?_⟩
 generalize hq:s.heap.push { cls:=.type "tuple_iterator",data:=.fields #[.ref l,.int 0 0]}=h1;have hz:h1.objs.size=s⁻¹+1:=by rw[<- hq];exact xL ..
 have hi:h1.get? s⁻¹=some { cls:=.type "tuple_iterator",data:=.fields #[.ref l,.int 0 0]}:=by rw[<- hq];exact eJ _ rfl
 have he:IsEnum (h1.push { cls:=.type "enumerate",data:=.fields #[.none,.bool false,.ref s⁻¹,rawInt 0,.none,.none]}) h1.objs.size s⁻¹ 0 .none:=eJ h1 rfl;show _/\_;rw[hz]at he ⊢
 exact⟨⟨_,he,rfl⟩,h _ he ⟨_,bP _ hi,rfl,rfl⟩ (by rw[xL,hz]) λb o x=>bP _ (by rw[<- hq];exact bP _ x)⟩
end
open L2 PySem.W SeqAt
def nM(tp:Bool)(K:Frag)(H:Hp)(a:Addr)(xs:List V):Prop:=match tp with |true=>g7 K H a xs |false=>bZ K H a xs
def Dt(tp:Bool)(h:Heap)(it a:Addr)(i:Nat):Prop:=match tp with |true=>h.IsTupleIter it a i |false=>h.IsListIter it a i
def Xm(tp:Bool)(h:Heap)(a:Addr)(its:List Value):Prop:=match tp with |true=>h.IsTuple a its.toArray |false=>h.IsList a its.toArray
section
theorem nM.real(I:L2.Inv X ah σ H s)(h:nM tp X.K H a xs):∃its:List Value,Vals xs its/\Xm tp s.heap a its/\xs.length<=sizeLine:=by
 cases tp with
 |true=>exact I.tuple h
 |false=>obtain⟨its,r,pl,hz⟩:=I.list h;exact⟨its,r,pl.isList,hz⟩
theorem nM.inj(I:L2.Inv X ah σ H s)(h:nM tp X.K H a xs)(h':nM tp X.K H a ys):xs=ys:=by
 cases tp with
 |true=>exact I.qR h h'
 |false=>exact I.uH h h'
theorem Dt.obj(x:Dt tp h it a i):∃o vs,h.get? it=some o/\o.data=.fields vs:=by
 cases tp with
 |true=>obtain⟨o,e,_,d⟩:=(show h.IsTupleIter it a i from x);exact⟨o,_,e,d⟩
 |false=>obtain⟨o,e,_,d⟩:=(show h.IsListIter it a i from x);exact⟨o,_,e,d⟩
theorem Dt.keep(x:Dt tp h it a i)(k:∀o,h.get? it=some o->h'.get? it=some o):Dt tp h' it a i:=by
 cases tp with
 |true=>obtain⟨o,e,d⟩:=(show h.IsTupleIter it a i from x);exact⟨o,k o e,d⟩
 |false=>obtain⟨o,e,d⟩:=(show h.IsListIter it a i from x);exact⟨o,k o e,d⟩
theorem lF(hh:A.handled=none)(fz:a≠it)(its:List Value):Draws prog w A it [it,a] its.length (λi v=>its[i]?=some v) (λi h=>Dt tp h it a i/\Xm tp h a its):=by
 cases tp with
 |true=>have:=RB (prog:=prog) (w:=w) hh it a fz its.toArray;simp only[dC,List.getElem?_toArray]at this;exact this
 |false=>have:=Draws.list (prog:=prog) (w:=w) hh it a fz its.toArray;simp only[dC,List.getElem?_toArray]at this;exact this
end
def Ite(tp:Bool)(K:Frag)(a:Addr):It:=
 ⟨λi H=>∃xs x,nM tp K H a xs/\xs[i]?=some x,λi H x H'=>∃p y,(∀xs,nM tp K H a xs->xs[i]?=some y)/\H p=none/\x=.ref p/\H'=upd H p (.tup [.int i,y]),λi H=>∃xs,nM tp K H a xs/\xs.length=i⟩
theorem BR{P:Program}{w:World}{K:Frag}{tp:Bool}{es:List Expr}{k:Nat}{pos:Pos}(e it a:Addr)(hei:e≠it):Turn P w K (.Tuple es k pos) (Ite tp K a) [e,it] e (λi h=>(∃old,IsEnum h e it i old)/\Dt tp h it a i) where
 mem:=by simp
 obj:=λi h st b hb=>by
  obtain⟨⟨old,he⟩,hi⟩:=st;rcases d6.mp hb with rfl |hb
  . exact⟨_,he,λv z=>nomatch (show Data.fields _=Data.cell v from z)⟩
  . cases fA.mp hb;obtain⟨o,vs,e1,e2⟩:=hi.obj;exact⟨o,e1,λv z=>by rw[e2]at z;cases z⟩
 keep:=λi h h' st k=>by
  obtain⟨⟨old,he⟩,hi⟩:=st;exact⟨⟨old,k e ⋯ _ he⟩,hi.keep λo q=>k it ⋯ o q⟩
 item:=by
  intro X hP hw hK hc i ah s σ H E I hf st hg;subst hP hw hK;obtain⟨⟨old,he⟩,hi⟩:=st;obtain⟨xs,x,hq,hx⟩:=hg;obtain⟨its,rv,hat,hz⟩:=hq.real I;obtain⟨f0,f1,f2,f3,f4,f5⟩:=hf e ⋯;obtain⟨g0,g1,g2,g3,g4,g5⟩:=hf it ⋯;have hae:a≠e:=λz=>by
   subst z;cases tp with
   |true=>obtain⟨o,e1,e2,_⟩:=(show s.heap.IsTuple a its.toArray from hat);rw[he]at e1;cases e1;exact absurd (show Value.type "enumerate"=Value.type "tuple" from e2) ⋯
   |false=>obtain⟨o,e1,e2,_⟩:=(show s.heap.IsList a its.toArray from hat);rw[he]at e1;cases e1;exact absurd (show Value.type "enumerate"=Value.type "list" from e2) ⋯
  have hai:a≠it:=λz=>by
   subst z;cases tp with
   |true=>obtain⟨o,e1,e2,_⟩:=(show s.heap.IsTuple a its.toArray from hat);obtain⟨o',e3,e4,_⟩:=(show s.heap.IsTupleIter a a i from hi);rw[e1]at e3;cases e3;rw[e2]at e4;exact absurd e4 ⋯
   |false=>obtain⟨o,e1,e2,_⟩:=(show s.heap.IsList a its.toArray from hat);obtain⟨o',e3,e4,_⟩:=(show s.heap.IsListIter a a i from hi);rw[e1]at e3;cases e3;rw[e2]at e4;exact absurd e4 ⋯
  have qi:i<its.length:=by rw[<- rv.length];exact (b0.mp hx).1
  refine wpAny_pyNext_enum_itemD (A:=X.A) (lF (tp:=tp) (A:=X.A.in1) (I.ok.hd hc) hai its) he ⟨hi,hat⟩ qi hei (by simp[hei,mP hae]) λu h1 tk hu hout bY ht jk hkp=>⟨_,rfl,?_⟩
  refine wpAny_letOwnedTupleGo_enum hout λh2 he2 hs2=>?_
  replace hs2:Heap.SameBut e h1 h2:=hs2;obtain⟨u',e1,ru⟩:=rv.get hx;rw[hu]at e1;cases e1;have hpe:s⁻¹≠e:=y6 (eP he);obtain⟨oi,vsi,ei,di⟩:=bY.1.obj;have ei2:h2.get? it=some oi:=(hs2.2 it (mP hei)).trans ei;obtain⟨oi0,_,ei0,_⟩:=hi.obj;have k1:∀b o,b≠e->s.heap.get? b=some o->(s.heap.update e λ_=>_).get? b=some o:=λb o hb q=>(i9 s.heap (λ_=>({ cls:=.type "enumerate",dict:=none,data:=.fields #[.none,.bool false,.ref it,rawInt ((i:Int)+1),.none,u],slots:=#[]}:Obj)) (mP hb)).trans q
  have I1:=I.turned (t':=s.toks) k1 f0 f1 f3 f4 f5;have k2:∀b o,b≠it->(s.heap.update e λ_=>_).get? b=some o->((s.heap.update e λ_=>({ cls:=.type "enumerate",dict:=none,data:=.fields #[.none,.bool false,.ref it,rawInt ((i:Int)+1),.none,u],slots:=#[]}:Obj)).update it λ_=>oi).get? b=some o:=λb o hb q=>(i9 _ (λ_=>oi) (mP hb)).trans q
  have I2:=I1.turned (t':=tk+1) k2 g0 g1 g3 g4 g5;have hse:(s.heap.update e λ_=>({ cls:=.type "enumerate",dict:=none,data:=.fields #[.none,.bool false,.ref it,rawInt ((i:Int)+1),.none,u],slots:=#[]}:Obj)).get? e=some _:=oS _ he rfl
  have k3:∀b o,((s.heap.update e λ_=>({ cls:=.type "enumerate",dict:=none,data:=.fields #[.none,.bool false,.ref it,rawInt ((i:Int)+1),.none,u],slots:=#[]}:Obj)).update it λ_=>oi).get? b=some o->h2.get? b=some o:=λb o q=>by
   by_cases hb:b=it
   .
    subst hb;have z:=oS (λ_=>oi) (k1 b oi0 (mP hei) ei0) (u4 di)
    rw[z]at q;cases q;exact ei2
   .
    rw[i9 _ _ (mP hb)]at q;by_cases hb2:b=e
    . subst hb2;rw[hse]at q;cases q;exact he2
    . rw[i9 _ _ (mP hb2)]at q;exact (hs2.2 b hb2).trans (hkp b o hb2 hb q)
  have hsz2:((s.heap.update e λ_=>({ cls:=.type "enumerate",dict:=none,data:=.fields #[.none,.bool false,.ref it,rawInt ((i:Int)+1),.none,u],slots:=#[]}:Obj)).update it λ_=>oi).objs.size<=s⁻¹:=by rw[A4,A4];exact dS _
  have I3:=I2.laid (a:=s⁻¹) (o:=.tup [.int i,x]) (t':=tk+1) k3 hsz2 ⟨by rw[nK];show 2<=16777216;decide,[.int i tk,u],.cons ⟨tk,rfl⟩ (.cons ru .nil),⟨_,(hs2.2 _ hpe).trans ht,⟨rfl,_,rfl⟩,rfl⟩⟩
  have hfr:H s⁻¹=none:=I.hok.fresh (dS _);refine⟨.ref s⁻¹,_,I3,rfl,⟨_,x,λys hy=>by rw[hy.inj I hq];exact hx,hfr,rfl,rfl⟩,⟨⟨u,he2⟩,bY.1.keep λo q=>(hs2.2 it (mP hei)).trans q⟩,λb hb=>?_⟩
  have hbn:b≠s⁻¹:=λz=>by
   rcases d6.mp hb with rfl |hb
   . exact hpe z.symm
   . cases fA.mp hb;exact absurd (eP ei0) (by rw[z];exact oD _)
  rw[az hbn];exact (hf b hb).1
 done:=by
  intro X hP hw hK hc i ah s σ H E I hf st hg;subst hP hw hK;obtain⟨⟨old,he⟩,hi⟩:=st;obtain⟨xs,hq,hx⟩:=hg;obtain⟨its,rv,hat,hz⟩:=hq.real I;obtain⟨g0,g1,g2,g3,g4,g5⟩:=hf it ⋯;have hai:a≠it:=λz=>by
   subst z;cases tp with
   |true=>obtain⟨o,e1,e2,_⟩:=(show s.heap.IsTuple a its.toArray from hat);obtain⟨o',e3,e4,_⟩:=(show s.heap.IsTupleIter a a i from hi);rw[e1]at e3;cases e3;rw[e2]at e4;exact absurd e4 ⋯
   |false=>obtain⟨o,e1,e2,_⟩:=(show s.heap.IsList a its.toArray from hat);obtain⟨o',e3,e4,_⟩:=(show s.heap.IsListIter a a i from hi);rw[e1]at e3;cases e3;rw[e2]at e4;exact absurd e4 ⋯
  have hl:i=its.length:=by rw[<- rv.length];exact hx.symm
  subst hl;exact wpAny_pyNext_enum_endD (A:=X.A) (lF (tp:=tp) (A:=X.A.in1) (I.ok.hd hc) hai its) he ⟨hi,hat⟩ λh' eb=>⟨rfl,I.turned (t':=s.toks) (λb o hb q=>eb b o hb q) g0 g1 g3 g4 g5⟩
 self:=λA i s Q E st h=>by
  obtain⟨⟨old,he⟩,_⟩:=st;exact wpAny_pyIter_enum he h
section
def mO(l:List D):List D:=l.zipIdx.map λp=>.tup [.int (p.2:Nat),p.1]
theorem BV{l:List D}{n:Nat}{d:D}(h:(mO l)[n]?=some d):∃x,l[n]?=some x/\d=.tup [.int n,x]:=by
 unfold mO at h;rw[oP]at h;cases e:l.zipIdx[n]? with
 |none=>rw[e]at h;cases h
 |some q=>
  rw[e]at h;cases h;rw[List.getElem?_zipIdx]at e;cases e2:l[n]? with
  |none=>rw[e2]at e;cases e
  |some x=>rw[e2]at e;cases e;exact⟨x,rfl,by simp⟩
theorem BW(l:List D):(mO l).length=l.length:=by simp[mO]
theorem K9{d:D}{l:List D}(hK:z.K=X.K)(ha:cO X z [e] g [.dat d] g1)(hs:cW d=some l)(hg:Gl X "enumerate")(hm:X.mg "enumerate"=none)(bY:starEach [e] X.env=[(false,eval e X.env)]) :
  dZ X z (.Tuple es k pos) (.Call (.Name "enumerate" p) [e] [] rp) g (mO l) g1:=by
 refine dZ.of λah s σ As M H Post I Xl kk=>?_
 refine Call_ (fK I hg hm boot_enumerate (mE (ha.run I Xl λvs us s1 H1 aO M1 I1 r1 q1 q2 q3=>?_) bY rfl))
 cases q3 with
 |dat rp0 R=>
  cases R;obtain⟨u,rfl,ru⟩:=vals1 r1;have main:∀(tp:Bool) (a:Addr) (xs:List V) (its:List Value),u=.ref a->Xm tp s1.heap a its->aI z.K M1 H1 l xs->(∀M2 H2,aq M1 H1 M2 H2->nM tp X.K H2 a xs)->
    (∀Q:Value->Shared->Prop,(∀h',IsEnum h' (s1⁻¹+1) s1⁻¹ 0 .none->Dt tp h' s1⁻¹ a 0->h'.objs.size=s1⁻¹+2->(∀b o,s1.heap.get? b=some o->h'.get? b=some o)->Q (.ref (s1⁻¹+1)) { s1 with heap:=h'})->
     wpAny (model X.prog X.w) X.A (call (.type "enumerate") [.ref a]) Q X.xe s1)->wpAny (model X.prog X.w) X.A (call (.type "enumerate") [u]) Post X.xe s1:=λtp a xs its hu hat rr hsq hcall=>by
   subst hu;refine hcall _ λh' he hi jk hk=>kk _ _ λR kR=>?_
   refine wpAny_pyIter_enum he ?_;have I2:L2.Inv X ah σ H1 { s1 with heap:=h'}:=I1.kept (t':=s1.toks) hk;refine⟨_,[s1⁻¹+1,s1⁻¹],_,Ite tp X.K a,H1,rfl,I2,BR _ _ a (Nat.succ_ne_self _),⟨⟨_,he⟩,hi⟩,λb hb=>?_,kR _ H1 aO M1 q1 q2 λM2 H2 aK=>?_⟩
   .
    rcases d6.mp hb with rfl |hb
    . exact I1.uI (AQ _) (I1.hok.fresh (AQ _))
    . cases fA.mp hb;exact I1.uI (dS _) (I1.hok.fresh (dS _))
   .
    have Dq:=rr.stay aK;refine⟨λn d hd=>?_,xs,hsq M2 H2 aK,by rw[BW];exact rr.length.symm⟩
    obtain⟨x,e1,rfl⟩:=BV hd;obtain⟨v,e2,e3⟩:=Dq.get e1;refine⟨⟨xs,v,hsq M2 H2 aK,e2⟩,λy H' hy z' g' σ' aC hz' s'=>?_⟩
    obtain⟨p,y',w1,w3,rfl,rfl⟩:=hy;have w2:=w1 xs (hsq M2 H2 aK);rw[e2]at w2;cases w2;refine⟨s'.laid w3,aq.laid w3,.tup (.inl ⟨s'.fresh w3,.inl aA⟩) (.cons (.int _) (.cons (e3.stay (aq.laid w3)) .nil))⟩
  cases rp0 with
  |@lst _ a xs hb rr=>cases hs;cases ru;obtain⟨its,rv,pl,hz⟩:=I1.list (bZ.of hb.2);exact main false a xs its rfl pl.isList rr (λM2 H2 aK=>bZ.of (aK _ _ hb.2 hb.1).1) λQ h=>call_enumerate_list pl.isList h
  |@tup _ a xs hb rr=>
   cases hs;cases ru;obtain⟨its,rv,pl,hz⟩:=I1.tuple (hK▸hb.sq);refine main true a xs its rfl pl rr (λM2 H2 aK=>?_) λQ h=>xJ pl h
   have:TupAt z.K M2 H2 a xs:=by
    rcases hb with ⟨na,hr⟩ |hk
    . exact .inl (aK.rd na hr)
    . exact .inr hk
   exact hK▸this.sq
  |@fix _ a xs hb rr=>
   cases hs;cases ru;obtain⟨its,rv,pl,hz⟩:=I1.list (hK▸hb.sq);refine main false a xs its rfl pl.isList rr (λM2 H2 aK=>?_) λQ h=>call_enumerate_list pl.isList h
   have:mC z.K M2 H2 a xs:=by
    rcases hb with ⟨na,o,hr⟩ |hk
    . exact .inl ⟨(aK _ _ hr na).2,o,(aK _ _ hr na).1⟩
    . exact .inr hk
   exact hK▸this.sq
  |_=>cases hs
end
open L2 PySem.W SeqAt
section
theorem BX(hc:X.calm=true)(hK:z.K=X.K)(hN:X.N[i]?=some x)(hv:gR X.env.scope x)(hd:(x==("__debug__":Str))=false)(bE:(x==("__classdict__":Str))=false)
  (hN2:X.N[j]?=some y) (hv2:gR X.env.scope y) (hd2:(y==("__debug__":Str))=false) (RC:(y==("__classdict__":Str))=false)
  (h:aD X z e g (.dat (.tup [d1,d2])) g1) (xu:g1[i]?=some (.own l0)) (h2:aD X z ix g1 (.dat (.int n1)) g2) (W5:g2[i]?=some (.own l)) (hj:ql l.length n1=some m1)
  (hg3:(g2.set i (.own (l.set m1 d1)))[j]?=some (.own l1)) (h3:aD X z Xn (g2.set i (.own (l.set m1 d1))) (.dat (.int n2)) g3) (hg4:g3[j]?=some (.own l2)) (hj2:ql l2.length n2=some m2)
  (ha:∀v,assign (.Subscript (.Name x pn) ix bJ) X.env v=(do
   let ov <- holding [v] (eval (.Name x pn) X.env)
   let iv <- holding [v,ov] (eval ix X.env)
   standAt bJ
   holding [v,ov,iv] (setItem ov iv v)
   release [v,ov,iv] []))
  (ha2:∀v,assign (.Subscript (.Name y Gh) Xn iD) X.env v=(do
   let ov <- holding [v] (eval (.Name y Gh) X.env)
   let iv <- holding [v,ov] (eval Xn X.env)
   standAt iD
   holding [v,ov,iv] (setItem ov iv v)
   release [v,ov,iv] []))
  (hs:swapsWithSole [.Tuple [.Subscript (.Name x pn) ix bJ,.Subscript (.Name y Gh) Xn iD] kt pt] e pos.line X.env=pure false) (hw:swappedStores [.Tuple [.Subscript (.Name x pn) ix bJ,.Subscript (.Name y Gh) Xn iD] kt pt] e X.env=pure none) :
  fW X z (.Assign [.Tuple [.Subscript (.Name x pn) ix bJ,.Subscript (.Name y Gh) Xn iD] kt pt] e pos) g .nx (g3.set j (.own (l2.set m2 d2))):=by
 obtain⟨t,q,k⟩:=h;obtain⟨t2,q2,k2'⟩:=h2;obtain⟨t3,q3,k3⟩:=h3;refine⟨_,wM q (wK (n:=2) hc (g8 (wL (bM hN hv hd bE) q2 set_list ha) (g8 (wL (bM hN2 hv2 hd2 RC) q3 set_list ha2) su rfl) rfl) rfl rfl) hs hw rfl,λσ As M H E s kE=>k σ As M H _ s λv H1 aO M1 s1 cI R1=>?_⟩
 have Xo:Rep z.K M1 H1 (.tup [d1,d2]) v:=R1;cases Xo with
 |@tup _ a xs ha rr=>
  cases rr with
  |@cons _ _ v1 _ r1 rr=>
   cases rr with
   |@cons _ _ v2 _ r2 rr=>
    cases rr;refine⟨a,_,rfl,hK▸ha.sq,rfl,v1,_,rfl,?_⟩;obtain⟨p,ys,e1,e2,e3,e4⟩:=s1.sl.at xu;refine⟨.ref p,e1,k2' σ aO M1 H1 _ s1 λw H2 bw M2 s2 aK R2=>?_⟩
    obtain⟨p',ys',f1,f2,f3,f4⟩:=s2.sl.at W5;rw[e1]at f1;injection f1 with f1;injection f1 with f1;injection f1 with f1;subst f1;have R2':Rep z.K M2 H2 (.int n1) w:=R2;cases R2';refine⟨p,ys',n1,m1,rfl,rfl,f3,by rw[<- f4.length];exact hj,?_⟩
    obtain⟨s3,dU⟩:=s2.write W5 e1 (aI.set (Rep.stay aK r1) m1 f4);refine⟨v2,[],rfl,?_⟩;obtain⟨p2,zs,e5,e6,e7,e8⟩:=s3.sl.at hg3;refine⟨.ref p2,e5,k3 σ bw M2 _ _ s3 λw' H4 jd M4 s4 oN R4=>?_⟩
    obtain⟨p2',zs',f5,f6,f7,f8⟩:=s4.sl.at hg4;rw[e5]at f5;injection f5 with f5;injection f5 with f5;injection f5 with f5;subst f5;have R4':Rep z.K M4 H4 (.int n2) w':=R4;cases R4';refine⟨p2,zs',n2,m2,rfl,rfl,f7,by rw[<- f8.length];exact hj2,?_⟩
    obtain⟨s5,jU⟩:=s4.write hg4 e5 (aI.set (Rep.stay (aK.trans (dU.trans oN)) r2) m2 f8);exact⟨rfl,kE σ jd M4 _ s5 (cI.trans (aK.trans (dU.trans (oN.trans jU))))⟩
end
end Ev
namespace HT
open PySem PyProof.Rows
end HT
namespace Ev
open L2
section
noncomputable abbrev m1(j:Nat)(p1 p3:Pos):Expr:=.UnaryOp .USub (.Constant (.int 1) j p1) p3
theorem RD:aD X z (.Dict [] [] pos) g (.dat .emp) g:=by
 refine⟨λσ H Q=>∀p,H p=none->Q (.ref p) (upd H p (.dK [])),λah s σ H Q I h=>wpAny_Dict_empty ⟨.ref s⁻¹,_,I.laid (t':=s.toks) (o:=.dK []) (λb ob q=>bP _ q) (dS _) ?_,rfl,h _ (I.hok.fresh (dS _))⟩,λσ As M H Q s k p hp=>k _ _ As M (s.laid hp) (aq.laid hp) (.emp (s.fresh hp) aA)⟩
 refine⟨Ap _,?_,[],?_,Heap.DictOf.new _⟩
 .
  have h1:mainGlobals<s⁻¹:=(I.ok.mod.glob.keeps I.bk).lt;refine Bool.eq_false_iff.mpr λq=>?_
  have q:=eq_of_beq q;rw[q]at h1;exact absurd h1 ⋯
 . exact .nil
end
open L2 PySem.W SeqAt
section
structure Vg(r tI tO i j a b:Addr):Prop where
 n1:tI≠r/\tO≠r/\i≠r/\j≠r/\a≠r/\b≠r
 n2:tI≠tO/\i≠tO/\j≠tO/\a≠tO/\b≠tO
 n3:tI≠i/\tI≠j/\i≠j
 n4:a≠i/\b≠i/\a≠j/\b≠j
section
theorem Gi{Q:Value->Shared->Prop}(N:Vg r tI tO i j a b)(D1:Draws prog w A i [i,a] n f S1)(D2:Draws prog w A j [j,b] m g S2)(hk1:k<n)(hk2:k<m)
  (er:IsZip s.heap r tI tO .none) (eI:IsPair s.heap tI (.ref i) (.ref j)) (eO:IsPair s.heap tO c d) (t1:S1 k s.heap) (t2:S2 k s.heap)
  (hQ:∀u v h' tk,f k u->g k v->IsZip h' r tI tO (rawInt s⁻¹)->IsPair h' tO u v->S1 (k+1) h'->S2 (k+1) h'->IsPair h' s⁻¹ u v->h'.objs.size=s⁻¹+1->
   (∀x o,x≠r->x≠tO->x≠i->x≠j->s.heap.get? x=some o->h'.get? x=some o)->Q (.ref s⁻¹) { s with heap:=h',toks:=tk}) :
  wpAny (model prog w) A (Builtin.«zip.__next__» ⟨[.ref r],[]⟩) (λfin s'=>∃v,fin=.done (.ret v)/\Q v s') E s:=by
 obtain⟨⟨p1,p2,p3,p4,p5,p6⟩,⟨q1,q2,q3,q4,q5⟩,⟨u1,u2,u3⟩,⟨v1,v2,v3,v4⟩⟩:=N;refine aS (m:=field (.ref r) 2) (mI er rfl (x:=.bool false) rfl ?_);refine aS (m:=field (.ref r) 3) (mI er rfl (x:=.ref tI) rfl (aS (At eI rfl ?_)));refine aS (m:=Builtin.SmallTypes.ownedTupleIsFree (.ref r)) ?_;unfold Builtin.SmallTypes.ownedTupleIsFree;refine aS (mI er rfl (x:=.none) rfl (dE ?_));simp only[wS];refine aS (CO (aS (mI er rfl (x:=.ref tO) rfl (aS (y8 er ⋯ λha Jq ka=>?_)))))
 replace Jq:IsZip ha r tI tO .ellipsis:=Jq;refine aS ?_;simp only[List.zipIdx_cons,List.zipIdx_nil,List.forIn_cons,List.forIn_nil];have ZF:S1 k ha:=D1.frame k _ _ t1 λx hx o e=>(ka.2 x (by rcases d6.mp hx with z |z;exact z▸p3;exact (fA.mp z)▸p5)).trans e
 have t2a:S2 k ha:=D2.frame k _ _ t2 λx hx o e=>(ka.2 x (by rcases d6.mp hx with z |z;exact z▸p4;exact (fA.mp z)▸p6)).trans e
 refine aS (aS (B8 (aS (m:=Builtin.SmallTypes.nextOf (.ref i)) (D1.item k { s with heap:=ha} _ _ hk1 ZF λu hb La fu t1b kb=>dE ?_))))
 have kb:Heap.SameBut i ha hb:=kb;have Xp:IsPair hb tO c d:=(kb.2 _ (mP q2)).trans ((ka.2 _ p2).trans eO);refine aS (At (s:={ s with heap:=hb,toks:=La}) Xp rfl (aS (wpAny_updateSeq_pair (s:={ s with heap:=hb,toks:=La}) Xp λhc ZG kc=>?_)))
 replace ZG:IsPair hc tO u d:=ZG;have kc:Heap.SameBut tO hb hc:=kc;refine aS (wpAny_letGo (dE ?_));have t1c:S1 (k+1) hc:=D1.frame _ _ _ t1b λx hx o e=>(kc.2 x (by rcases d6.mp hx with z |z;exact z▸q2;exact (fA.mp z)▸q4)).trans e
 have t2c:S2 k hc:=D2.frame k _ _ t2a λx hx o e=>by
  have hx:x=j\/x=b:=by rcases d6.mp hx with z |z;exact .inl z;exact .inr (fA.mp z)
  rw[kc.2 x (by rcases hx with rfl |rfl;exact q3;exact q5),kb.2 x (by rcases hx with rfl |rfl;exact mP u3;exact v2)]
  exact e
 refine aS (aS (B8 (aS (m:=Builtin.SmallTypes.nextOf (.ref j)) (D2.item k { s with heap:=hc,toks:=La} _ _ hk2 t2c λv hd ZJ gv t2d kd=>dE ?_))))
 have kd:Heap.SameBut j hc hd:=kd;have eOd:IsPair hd tO u d:=(kd.2 _ (mP q3)).trans ZG;refine aS (At (s:={ s with heap:=hd,toks:=ZJ}) eOd rfl (aS (wpAny_updateSeq_pair (s:={ s with heap:=hd,toks:=ZJ}) eOd λhe ZK ke=>?_)))
 replace ZK:IsPair he tO u v:=ZK;have ke:Heap.SameBut tO hd he:=ke;refine aS (wpAny_letGo (dE (dE ?_)));refine aS (At (s:={ s with heap:=he,toks:=ZJ}) ZK rfl (aS (wpAny_newTuple ?_)));have sz:he.objs.size=s⁻¹:=by rw[ke.1,kd.1,kc.1,kb.1];exact ka.1
 have ere:IsZip he r tI tO .ellipsis:=by show he.get? r=_;rw[ke.2 _ (mP p2),kd.2 _ (mP p4),kc.2 _ (mP p2),kb.2 _ (mP p3)];exact Jq
 have old:∀x o,x≠r->x≠tO->x≠i->x≠j->s.heap.get? x=some o->he.get? x=some o:=λx o x1 x2 x3 x4 e=>by
  rw[ke.2 _ x2,kd.2 _ x4,kc.2 _ x2,kb.2 _ x3];exact (ka.2 _ x1).trans e
 have t1e:S1 (k+1) he:=D1.frame _ _ _ t1c λx hx o e=>by
  have hx:x=i\/x=a:=by rcases d6.mp hx with z |z;exact .inl z;exact .inr (fA.mp z)
  rw[ke.2 x (by rcases hx with rfl |rfl;exact q2;exact q4),kd.2 x (by rcases hx with rfl |rfl;exact u3;exact v3)]
  exact e
 have t2e:S2 (k+1) he:=D2.frame _ _ _ t2d λx hx o e=>(ke.2 x (by rcases d6.mp hx with z |z;exact z▸q3;exact (fA.mp z)▸q5)).trans e
 refine aS (m:=Builtin.SmallTypes.ownedTupleHandOut (.ref r) (.ref he.objs.size)) ?_;unfold Builtin.SmallTypes.ownedTupleHandOut;have erf:IsZip (he.push { cls:=.type "tuple",data:=.seq #[u,v]}) r tI tO .ellipsis:=bP _ ere;refine aS (y8 erf ⋯ λhg erg kg=>?_)
 replace erg:IsZip hg r tI tO (rawInt he.objs.size):=erg;refine y8 erg ⋯ λhh ZL kh=>?_
 replace ZL:IsZip hh r tI tO (rawInt he.objs.size):=ZL;have kg:Heap.SameBut r (he.push { cls:=.type "tuple",data:=.seq #[u,v]}) hg:=kg;have kh:Heap.SameBut r hg hh:=kh;have up:∀x o,x≠r->he.get? x=some o->hh.get? x=some o:=λx o x1 e=>by rw[kh.2 _ x1,kg.2 _ x1];exact bP _ e
 have rlt:r<he.objs.size:=eP ere;have new:IsPair hh he.objs.size u v:=by show hh.get? _=_;rw[kh.2 _ (y6 rlt),kg.2 _ (y6 rlt)];exact eJ _ rfl
 have szh:hh.objs.size=he.objs.size+1:=by rw[kh.1,kg.1,xL]
 have fr1:∀x o,x=i\/x=a->he.get? x=some o->hh.get? x=some o:=λx o hx e=>up x o (by rcases hx with rfl |rfl;exact p3;exact p5) e
 have fr2:∀x o,x=j\/x=b->he.get? x=some o->hh.get? x=some o:=λx o hx e=>up x o (by rcases hx with rfl |rfl;exact p4;exact p6) e
 rw[sz]at ZL new szh;refine dE ⟨_,rfl,?_⟩;show Q (.ref he.objs.size) _;rw[sz];exact hQ u v hh ZJ fu gv ZL (up _ _ p2 ZK) (D1.frame _ _ _ t1e λx hx o e=>fr1 x o (by rcases d6.mp hx with z |z;exact .inl z;exact .inr (fA.mp z)) e)
  (D2.frame _ _ _ t2e λx hx o e=>fr2 x o (by rcases d6.mp hx with z |z;exact .inl z;exact .inr (fA.mp z)) e) new szh λx o x1 x2 x3 x4 e=>up x o x1 (old x o x1 x2 x3 x4 e)
theorem Lb(N:Vg r tI tO i j a b)(D1:Draws prog w A i [i,a] n f S1)(D2:Draws prog w A j [j,b] m g S2)(hk:k=n\/(k<n/\k=m))
  (er:IsZip s.heap r tI tO .none) (eI:IsPair s.heap tI (.ref i) (.ref j)) (eO:IsPair s.heap tO c d) (t1:S1 k s.heap) (t2:S2 k s.heap)
  (hE:∀h' e tk,(∀x o,x≠r->x≠tO->x≠i->x≠j->s.heap.get? x=some o->h'.get? x=some o)->(∃o,h'.get? e=some o/\o.cls=.type "StopIteration")->E (.ref e) { s with heap:=h',toks:=tk}) :
  wpAny (model prog w) A (Builtin.«zip.__next__» ⟨[.ref r],[]⟩) Q E s:=by
 obtain⟨⟨p1,p2,p3,p4,p5,p6⟩,⟨q1,q2,q3,q4,q5⟩,⟨u1,u2,u3⟩,⟨v1,v2,v3,v4⟩⟩:=N;refine aS (m:=field (.ref r) 2) (mI er rfl (x:=.bool false) rfl ?_);refine aS (m:=field (.ref r) 3) (mI er rfl (x:=.ref tI) rfl (aS (At eI rfl ?_)));refine aS (m:=Builtin.SmallTypes.ownedTupleIsFree (.ref r)) ?_;unfold Builtin.SmallTypes.ownedTupleIsFree;refine aS (mI er rfl (x:=.none) rfl (dE ?_));simp only[wS];refine aS (CO (aS (mI er rfl (x:=.ref tO) rfl (aS (y8 er ⋯ λha Jq ka=>?_)))))
 replace Jq:IsZip ha r tI tO .ellipsis:=Jq;refine aS ?_;simp only[List.zipIdx_cons,List.zipIdx_nil,List.forIn_cons,List.forIn_nil];have ZF:S1 k ha:=D1.frame k _ _ t1 λx hx o e=>(ka.2 x (by rcases d6.mp hx with z |z;exact z▸p3;exact (fA.mp z)▸p5)).trans e
 have t2a:S2 k ha:=D2.frame k _ _ t2 λx hx o e=>(ka.2 x (by rcases d6.mp hx with z |z;exact z▸p4;exact (fA.mp z)▸p6)).trans e
 have stop:∀(hb:Heap) (e:Addr) (tk:Nat),IsZip hb r tI tO .ellipsis->(∃o,hb.get? e=some o/\o.cls=.type "StopIteration")->e≠r:=λhb e tk z ⟨o,h1,h2⟩ q=>by
  rw[q,z]at h1;cases h1;exact absurd (show Value.type "zip"=.type "StopIteration" from h2) ⋯
 rcases hk with rfl |⟨hk1,rfl⟩
 .
  refine aS (aS (B8 (aS (m:=Builtin.SmallTypes.nextOf (.ref i)) (D1.done { s with heap:=ha} _ _ ZF λhb e kb ex=>?_))))
  have kb:Heap.ExtBut i ha hb:=kb;have erb:IsZip hb r tI tO .ellipsis:=kb _ _ (mP p3) Jq;have ner:=stop hb e s.toks erb ex;obtain⟨oe,x1,x2⟩:=ex;refine y8 (s:={ s with heap:=hb}) erb ⋯ λhc _ kc=>?_
  have kc:Heap.SameBut r hb hc:=kc;exact hE hc e s.toks (λx o y1 y2 y3 y4 z=>(kc.2 _ y1).trans (kb _ _ y3 ((ka.2 _ y1).trans z))) ⟨oe,(kc.2 _ ner).trans x1,x2⟩
 .
  refine aS (aS (B8 (aS (m:=Builtin.SmallTypes.nextOf (.ref i)) (D1.item k { s with heap:=ha} _ _ hk1 ZF λu hb La fu t1b kb=>dE ?_))))
  have kb:Heap.SameBut i ha hb:=kb;have Xp:IsPair hb tO c d:=(kb.2 _ (mP q2)).trans ((ka.2 _ p2).trans eO);refine aS (At (s:={ s with heap:=hb,toks:=La}) Xp rfl (aS (wpAny_updateSeq_pair (s:={ s with heap:=hb,toks:=La}) Xp λhc ZG kc=>?_)))
  have kc:Heap.SameBut tO hb hc:=kc;refine aS (wpAny_letGo (dE ?_));have t2c:S2 k hc:=D2.frame k _ _ t2a λx hx o e=>by
   have hx:x=j\/x=b:=by rcases d6.mp hx with z |z;exact .inl z;exact .inr (fA.mp z)
   rw[kc.2 x (by rcases hx with rfl |rfl;exact q3;exact q5),kb.2 x (by rcases hx with rfl |rfl;exact mP u3;exact v2)]
   exact e
  refine aS (aS (B8 (aS (m:=Builtin.SmallTypes.nextOf (.ref j)) (D2.done { s with heap:=hc,toks:=La} _ _ t2c λhd e kd ex=>?_))))
  have kd:Heap.ExtBut j hc hd:=kd;have erd:IsZip hd r tI tO .ellipsis:=kd _ _ (mP p4) (by rw[kc.2 _ (mP p2),kb.2 _ (mP p3)];exact Jq)
  have ner:=stop hd e s.toks erd ex;obtain⟨oe,x1,x2⟩:=ex;refine y8 (s:={ s with heap:=hd,toks:=La}) erd ⋯ λhe _ ke=>?_
  have ke:Heap.SameBut r hd he:=ke;exact hE he e La (λx o y1 y2 y3 y4 z=>(ke.2 _ y1).trans (kd _ _ y4 (by rw[kc.2 _ y2,kb.2 _ y3];exact (ka.2 _ y1).trans z))) ⟨oe,(ke.2 _ ner).trans x1,x2⟩
end
section
theorem Gj{Q:Option Value->Shared->Prop}(N:Vg r tI tO i j a b)(D1:Draws prog w A.in1 i [i,a] n f S1)(D2:Draws prog w A.in1 j [j,b] m g S2)(hk1:k<n)(hk2:k<m)
  (er:IsZip s.heap r tI tO .none) (eI:IsPair s.heap tI (.ref i) (.ref j)) (eO:IsPair s.heap tO c d) (t1:S1 k s.heap) (t2:S2 k s.heap)
  (hQ:∀u v h' tk,f k u->g k v->IsZip h' r tI tO (rawInt s⁻¹)->IsPair h' tO u v->S1 (k+1) h'->S2 (k+1) h'->IsPair h' s⁻¹ u v->h'.objs.size=s⁻¹+1->
   (∀x o,x≠r->x≠tO->x≠i->x≠j->s.heap.get? x=some o->h'.get? x=some o)->Q (some (.ref s⁻¹)) { s with heap:=h',toks:=tk}):wpAny (model prog w) A (pyNext (.ref r)) Q E s:=by
 have ty:s.TypeIs (.ref r) "zip" :=⟨_,er,rfl⟩;unfold pyNext;exact aS (wpAny_attempt (o6 (name:=Str.ofString "__next__") ty F.slot_zip_next (tS F.slot_zip_next ty F.entry_zip_next
  (Gi N D1 D2 hk1 hk2 er eI eO t1 t2 λu v h' tk b1 b2 b3 b4 b5 b6 b7 b8 b9=>dE (hQ u v h' tk b1 b2 b3 b4 b5 b6 b7 b8 b9)) (F.args_zip_next_1 _))))
theorem vg(N:Vg r tI tO i j a b)(D1:Draws prog w A.in1 i [i,a] n f S1)(D2:Draws prog w A.in1 j [j,b] m g S2)(hk:k=n\/(k<n/\k=m))
  (er:IsZip s.heap r tI tO .none) (eI:IsPair s.heap tI (.ref i) (.ref j)) (eO:IsPair s.heap tO c d) (t1:S1 k s.heap) (t2:S2 k s.heap)
  (hQ:∀h' tk,(∀x o,x≠r->x≠tO->x≠i->x≠j->s.heap.get? x=some o->h'.get? x=some o)->Q none { s with heap:=h',toks:=tk}):wpAny (model prog w) A (pyNext (.ref r)) Q E s:=by
 have ty:s.TypeIs (.ref r) "zip" :=⟨_,er,rfl⟩;unfold pyNext;refine aS (wpAny_attempt (o6 (name:=Str.ofString "__next__") ty F.slot_zip_next (tS F.slot_zip_next ty F.entry_zip_next
  (Lb N D1 D2 hk er eI eO t1 t2 λh' e tk kp ex=>?_) (F.args_zip_next_1 _))))
 obtain⟨o,x1,x2⟩:=ex;exact aS (wpAny_isInstance (T:= "StopIteration") (b:=true) ⟨o,x1,x2⟩ isSubtype_stop (dE (hQ _ tk kp)))
end
end
open L2 PySem.W SeqAt
section
theorem Inv.RJ{h':Heap}{t':Nat}{ch:List Addr}(I:L2.Inv X ah σ H s)(hf:∀b∈ch,jT X ah H b)(k:∀b o,b∉ch->s.heap.get? b=some o->h'.get? b=some o):L2.Inv X ah σ H { s with heap:=h',toks:=t'}:=by
 have nH:∀b u,H b=some u->b∉ch:=λb u e z=>by rw[(hf b z).1]at e;cases e
 refine I.step (g':=s.gens) (d':=s.drawn) (ch:=ch) (λb hb=>?_) (λb o _ _ hc e _=>k b o hc e) (λb o _ _ hc e _=>⟨o.slots,k b o hc e⟩) (λ_ _ _ _ n=>n) (λb o hc e=>⟨o,k b o hc e⟩) (λ_ _ e=>e) (λ_ _ _ e=>e) (λb ps e=>⟨#[],by rw[e];simp⟩) (λm hm=>?_) (λb u e=>?_) I.bare
 . obtain⟨f0,f1,f2,f3,f4,f5⟩:=hf b hb;exact⟨f3,f1,f4,f5⟩
 . obtain⟨o,es,ep,ho,rr⟩:=hm;exact⟨o,es,ep,k _ o (λz=>(hf _ z).2.1 rfl) ho,rr⟩
 .
  refine (I.hok b u e).stay (λc w hc q=>k c w (λz=>?_) q) (λ_ q=>q) λ_ _ q=>q
  rcases hc with rfl |hc
  . exact nH _ _ e z
  . exact nH _ _ hc z
theorem Inv.RK{h':Heap}{t':Nat}{ch:List Addr}{xs:List V}{its:List Value}(I:L2.Inv X ah σ H s)(hf:∀b∈ch,jT X ah H b)(k:∀b o,b∉ch->s.heap.get? b=some o->h'.get? b=some o)(hz:xs.length<=sizeLine)(rv:Vals xs its)(ht:fJ h' s⁻¹ its.toArray) :
  L2.Inv X ah σ (upd H s⁻¹ (.tup xs)) { s with heap:=h',toks:=t'}:=by
 have nH:∀b u,H b=some u->b∉ch:=λb u e z=>by rw[(hf b z).1]at e;cases e
 have fr:H s⁻¹=none:=I.hok.fresh (dS _);have nn:∀b u,H b=some u->b≠s⁻¹:=λb u e z=>by rw[z,fr]at e;cases e
 refine I.step (g':=s.gens) (d':=s.drawn) (ch:=ch) (λb hb=>?_) (λb o _ _ hc e _=>k b o hc e) (λb o _ _ hc e _=>⟨o.slots,k b o hc e⟩) (λb o _ e n=>by rw[az (l4 (eP e))];exact n) (λb o hc e=>⟨o,k b o hc e⟩) (λb _ e=>by rw[az (nn _ _ e)];exact e) (λb _ _ e=>by rw[az (nn _ _ e)];exact e) (λb ps e=>⟨#[],by rw[az (nn _ _ e),e];simp⟩) (λm hm=>?_) (λb u e=>?_) I.bare
 . obtain⟨f0,f1,f2,f3,f4,f5⟩:=hf b hb;exact⟨f3,f1,f4,f5⟩
 . obtain⟨o,es,ep,ho,rr⟩:=hm;exact⟨o,es,ep,k _ o (λz=>(hf _ z).2.1 rfl) ho,rr⟩
 .
  by_cases hb:b=s⁻¹
  . subst hb;rw[aA]at e;cases e;exact⟨hz,its,rv,ht⟩
  .
   rw[az hb]at e;refine (I.hok b u e).stay (λc w hc q=>k c w (λz=>?_) q) (λc q=>by rw[az (nn _ _ q)];exact q) λc _ q=>by rw[az (nn _ _ q)];exact q
   rcases hc with rfl |hc
   . exact nH _ _ e z
   . exact nH _ _ hc z
end
theorem nM.N9(I:L2.Inv X ah σ H s)(h:nM tp X.K H u us)(f:jT X ah H c):u≠c:=λz=>by
 subst z;have inK:∀o,X.K.lookup u=some o->False:=λo e=>by
  have e0:=I.ok.mod.Dn u o e;rcases f.2.2.2.1 with q |q
  . exact I.ok.uF u o e0 q
  . exact absurd (eD (eP (I.ok.bs u o e0).1) q) (oD _)
 cases tp with
 |true=>
  rcases (show g7 X.K H u us from h)with (h |⟨o,h⟩) |h
  . rw[f.1]at h;cases h
  . rw[f.1]at h;cases h
  . obtain⟨o,_,_,h,_⟩:=h;exact inK _ h
 |false=>
  rcases (show bZ X.K H u us from h)with (h |⟨o,h⟩) |h
  . rw[f.1]at h;cases h
  . rw[f.1]at h;cases h
  . obtain⟨o,_,_,h,_⟩:=h;exact inK _ h
noncomputable def Itz(tp:Bool)(K:Frag)(a b:Addr):It:=
 ⟨λi H=>∃xs ys x y,nM tp K H a xs/\nM tp K H b ys/\xs[i]?=some x/\ys[i]?=some y,λi H x H'=>∃p u v,(∀xs,nM tp K H a xs->xs[i]?=some u)/\(∀ys,nM tp K H b ys->ys[i]?=some v)/\H p=none/\x=.ref p/\H'=upd H p (.tup [u,v]),
  λi H=>∃xs ys,nM tp K H a xs/\nM tp K H b ys/\(i=xs.length\/(i<xs.length/\i=ys.length))⟩
theorem Gk{P:Program}{w:World}{K:Frag}{tp:Bool}{es:List Expr}{k:Nat}{pos:Pos}(r tI tO i j a b:Addr)(A1:tI≠r/\tO≠r/\i≠r/\j≠r)(A2:tI≠tO/\i≠tO/\j≠tO)(A3:tI≠i/\tI≠j/\i≠j) :
  Turn P w K (.Tuple es k pos) (Itz tp K a b) [r,tI,tO,i,j] r (λn h=>IsZip h r tI tO .none/\IsPair h tI (.ref i) (.ref j)/\(∃c d,IsPair h tO c d)/\Dt tp h i a n/\Dt tp h j b n) where
 mem:=by simp
 obj:=λn h st x hx=>by
  obtain⟨er,eI,⟨c,d,eO⟩,t1,t2⟩:=st;simp only[d6,nN,A5]at hx;rcases hx with rfl |rfl |rfl |rfl |rfl
  . exact⟨_,er,λv z=>nomatch (show Data.fields _=Data.cell v from z)⟩
  . exact⟨_,eI,λv z=>nomatch (show Data.seq _ _=Data.cell v from z)⟩
  . exact⟨_,eO,λv z=>nomatch (show Data.seq _ _=Data.cell v from z)⟩
  . obtain⟨o,vs,e1,e2⟩:=t1.obj;exact⟨o,e1,λv z=>by rw[e2]at z;cases z⟩
  . obtain⟨o,vs,e1,e2⟩:=t2.obj;exact⟨o,e1,λv z=>by rw[e2]at z;cases z⟩
 keep:=λn h h' st kp=>by
  obtain⟨er,eI,⟨c,d,eO⟩,t1,t2⟩:=st;exact⟨kp r ⋯ _ er,kp tI ⋯ _ eI,⟨c,d,kp tO ⋯ _ eO⟩,t1.keep λo q=>kp i ⋯ o q,t2.keep λo q=>kp j ⋯ o q⟩
 item:=by
  intro X hP hw hK hc n ah s σ H E I hf st hg;subst hP hw hK;obtain⟨er,eI,⟨c,d,eO⟩,t1,t2⟩:=st;obtain⟨xs,ys,x,y,qx,qy,gx,gy⟩:=hg;obtain⟨Xq,rx,Xr,zx⟩:=qx.real I;obtain⟨Xs,ry,Xu,zy⟩:=qy.real I;have nf:∀{u:Addr}{us:List V}{c:Addr},nM tp X.K H u us->c∈[r,tI,tO,i,j]->u≠c:=λh hc=>nM.N9 I h (hf _ hc)
  have N:Vg r tI tO i j a b:=⟨⟨A1.1,A1.2.1,A1.2.2.1,A1.2.2.2,nf qx ⋯,nf qy ⋯⟩,⟨A2.1,A2.2.1,A2.2.2,nf qx ⋯,nf qy ⋯⟩,A3,⟨nf qx ⋯,nf qy ⋯,nf qx ⋯,nf qy ⋯⟩⟩;have l1:n<Xq.length:=by rw[<- rx.length];exact (b0.mp gx).1
  have l2:n<Xs.length:=by rw[<- ry.length];exact (b0.mp gy).1
  refine Gj (A:=X.A) N (lF (tp:=tp) (A:=X.A.in1) (I.ok.hd hc) (nf qx ⋯) Xq) (lF (tp:=tp) (A:=X.A.in1) (I.ok.hd hc) (nf qy ⋯) Xs) l1 l2 er eI eO ⟨t1,Xr⟩ ⟨t2,Xu⟩ λu v h1 tk fu gv Jq eO1 s1 s2 new sz kp=>⟨_,rfl,?_⟩
  refine wpAny_letOwnedTupleGo_zip (s:={ s with heap:=h1,toks:=tk}) Jq λh2 er2 k2=>?_
  have k2:Heap.SameBut r h1 h2:=k2;obtain⟨u',e1,ru⟩:=rx.get gx;obtain⟨v',e2,rv⟩:=ry.get gy;rw[fu]at e1;cases e1;rw[gv]at e2;cases e2;have pr:s⁻¹≠r:=y6 (eP er);have kk:∀x o,x∉[r,tO,i,j]->s.heap.get? x=some o->h2.get? x=some o:=λx o hx e=>by
   simp only[d6,nN,A5,not_or]at hx;exact (k2.2 x hx.1).trans (kp x o hx.1 hx.2.1 hx.2.2.1 hx.2.2.2 e)
  have J:=Inv.RK (t':=tk) (xs:=[x,y]) (its:=[u,v]) I (ch:=[r,tO,i,j]) (λc hc=>hf c (by simp only[d6,nN,A5]at hc ⊢;rcases hc with h |h |h |h <;> simp[h])) kk (by rw[nK];show 2<=16777216;decide) (.cons ru (.cons rv .nil)) ⟨_,(k2.2 _ pr).trans new,⟨rfl,_,rfl⟩,rfl⟩
  have eI2:IsPair h2 tI (.ref i) (.ref j):=kk _ _ (by simp[A1.1,A2.1,A3.1,A3.2.1]) eI
  refine⟨.ref s⁻¹,_,J,rfl,⟨_,x,y,λzs hz=>by rw[hz.inj I qx];exact gx,λzs hz=>by rw[hz.inj I qy];exact gy,I.hok.fresh (dS _),rfl,rfl⟩,⟨er2,eI2,⟨u,v,(k2.2 _ A1.2.1).trans eO1⟩,s1.1.keep λo q=>(k2.2 _ A1.2.2.1).trans q,s2.1.keep λo q=>(k2.2 _ A1.2.2.2).trans q⟩,λc hc=>?_⟩
  have hcn:c≠s⁻¹:=λz=>by
   have:∃o,s.heap.get? c=some o:=by
    simp only[d6,nN,A5]at hc;rcases hc with rfl |rfl |rfl |rfl |rfl
    . exact⟨_,er⟩
    . exact⟨_,eI⟩
    . exact⟨_,eO⟩
    . obtain⟨o,_,e,_⟩:=t1.obj;exact⟨o,e⟩
    . obtain⟨o,_,e,_⟩:=t2.obj;exact⟨o,e⟩
   obtain⟨o,e⟩:=this;exact absurd (eP e) (by rw[z];exact oD _)
  rw[az hcn];exact (hf c hc).1
 done:=by
  intro X hP hw hK hc n ah s σ H E I hf st hg;subst hP hw hK;obtain⟨er,eI,⟨c,d,eO⟩,t1,t2⟩:=st;obtain⟨xs,ys,qx,qy,hn⟩:=hg;obtain⟨Xq,rx,Xr,zx⟩:=qx.real I;obtain⟨Xs,ry,Xu,zy⟩:=qy.real I;have nf:∀{u:Addr}{us:List V}{c:Addr},nM tp X.K H u us->c∈[r,tI,tO,i,j]->u≠c:=λh hc=>nM.N9 I h (hf _ hc)
  have N:Vg r tI tO i j a b:=⟨⟨A1.1,A1.2.1,A1.2.2.1,A1.2.2.2,nf qx ⋯,nf qy ⋯⟩,⟨A2.1,A2.2.1,A2.2.2,nf qx ⋯,nf qy ⋯⟩,A3,⟨nf qx ⋯,nf qy ⋯,nf qx ⋯,nf qy ⋯⟩⟩;refine vg (A:=X.A) N (lF (tp:=tp) (A:=X.A.in1) (I.ok.hd hc) (nf qx ⋯) Xq) (lF (tp:=tp) (A:=X.A.in1) (I.ok.hd hc) (nf qy ⋯) Xs) (by rw[<- rx.length,<- ry.length];exact hn) er eI eO ⟨t1,Xr⟩ ⟨t2,Xu⟩ λh1 tk kp=>⟨rfl,?_⟩
  exact Inv.RJ (t':=tk) I (ch:=[r,tO,i,j]) (λc hc=>hf c (by simp only[d6,nN,A5]at hc ⊢;rcases hc with h |h |h |h <;> simp[h])) λx o hx e=>by
   simp only[d6,nN,A5,not_or]at hx;exact kp x o hx.1 hx.2.1 hx.2.2.1 hx.2.2.2 e
 self:=λA n s Q E st h=>wpAny_pyIter_zip st.1 h
open L2 PySem.W SeqAt
section
noncomputable abbrev Xv(h:Heap)(a:Addr):Heap:=h.push { cls:=.type "tuple_iterator",data:=.fields #[.ref a,.int 0 0]}
abbrev ZM(h:Heap)(a b:Addr):Heap:=(Xv h a).push { cls:=.type "tuple_iterator",data:=.fields #[.ref b,.int 0 0]}
abbrev ZN(h:Heap)(a b:Addr):Heap:=(ZM h a b).push { cls:=.type "tuple",data:=.seq #[.ref h.objs.size,.ref (Xv h a).objs.size]}
abbrev ZP(h:Heap)(a b:Addr):Heap:=(ZN h a b).push { cls:=.type "tuple",data:=.seq #[.none,.none]}
abbrev Vh (h:Heap) (a b:Addr):Heap:=(ZP h a b).push { cls:=.type "zip",data:=.fields #[.none,.bool false,.bool false,.ref (ZM h a b).objs.size,.ref (ZN h a b).objs.size]}
theorem xK(a b:Addr)(xs ys:Array Value) :
  Meets (Builtin.«zip.__new__» ⟨[.type "zip",.ref a,.ref b],[]⟩) (λ_ R s=>s.heap.IsTuple a xs/\s.heap.IsTuple b ys/\R (.ok (.ret (.ref (ZP s.heap a b).objs.size))) { s with heap:=Vh s.heap a b}):=
 .of_wp λprog w A R s h=>by
  obtain⟨hp,g,d,tk,os⟩:=s;obtain⟨ta,tb,h⟩:=h;have hsub:=sub_zip;have T1:Heap.IsTuple (Shared.heap ⟨hp,g,d,tk,os⟩) a xs:=ta;have T2:Heap.IsTuple (Shared.heap ⟨Xv hp a,g,d,tk,os⟩) b ys:=by obtain⟨o,e,rr⟩:=tb;exact⟨o,bP _ e,rr⟩
  wp_walk using AL T1,AL T2
  exact⟨_,rfl,h⟩
theorem BZ(ta:s.heap.IsTuple a xs)(tb:s.heap.IsTuple b ys)
  (h:∀h',IsZip h' (s⁻¹+4) (s⁻¹+2) (s⁻¹+3) .none->IsPair h' (s⁻¹+2) (.ref s⁻¹) (.ref (s⁻¹+1))->
   IsPair h' (s⁻¹+3) .none .none->h'.IsTupleIter s⁻¹ a 0->h'.IsTupleIter (s⁻¹+1) b 0->h'.objs.size=s⁻¹+5->
   (∀c o,s.heap.get? c=some o->h'.get? c=some o)->Q (.ref (s⁻¹+4)) { s with heap:=h'}) :
  wpAny (model prog w) A (call (.type "zip") [.ref a,.ref b]) Q E s:=by
 refine callType_new F.called_zip ⋯ (F.typeCall_zip_2 _ _) (F.newCall_zip_2 _ _) (λobj=>F.args_object_init_3 obj _ _) F.entry_zip_new (xK a b xs ys) ⟨ta,tb,?_⟩
 have s1:(Xv s.heap a).objs.size=s⁻¹+1:=xL ..;have s2:(ZM s.heap a b).objs.size=s⁻¹+2:=by rw[xL,s1]
 have s3:(ZN s.heap a b).objs.size=s⁻¹+3:=by rw[xL,s2]
 have s4:(ZP s.heap a b).objs.size=s⁻¹+4:=by rw[xL,s3]
 have o5:(Vh s.heap a b).get? (ZP s.heap a b).objs.size=some _:=eJ _ rfl;have o4:(Vh s.heap a b).get? (ZN s.heap a b).objs.size=some _:=bP _ (eJ _ rfl);have o3:(Vh s.heap a b).get? (ZM s.heap a b).objs.size=some _:=bP _ (bP _ (eJ _ rfl));have o2:(Vh s.heap a b).get? (Xv s.heap a).objs.size=some _:=bP _ (bP _ (bP _ (eJ _ rfl)));have o1:(Vh s.heap a b).get? s⁻¹=some _:=bP _ (bP _ (bP _ (bP _ (eJ _ rfl))));show _/\_;rw[s4]at o5 ⊢
 rw[s2,s3]at o5;rw[s2,s1]at o3;rw[s3]at o4;rw[s1]at o2;exact⟨⟨_,o5,rfl⟩,h _ o5 o3 o4 ⟨_,o1,rfl,rfl⟩ ⟨_,o2,rfl,rfl⟩ (by rw[xL,s4]) λc o e=>bP _ (bP _ (bP _ (bP _ (bP _ e))))⟩
end
noncomputable def sX(l m:List D):List D:=(l.zip m).map λp=>.tup [p.1,p.2]
theorem Gm{l m:List D}{n:Nat}{d:D}(h:(sX l m)[n]?=some d):∃x y,l[n]?=some x/\m[n]?=some y/\d=.tup [x,y]:=by
 unfold sX at h;rw[oP]at h;cases e:(l.zip m)[n]? with
 |none=>rw[e]at h;cases h
 |some q=>rw[e]at h;cases h;obtain⟨h1,h2⟩:=List.getElem?_zip_eq_some.mp e;exact⟨q.1,q.2,h1,h2,rfl⟩
theorem Gn(l m:List D):(sX l m).length=min l.length m.length:=by simp[sX]
section
def isTup:D->Bool
 |.tup _=>true
 |_=>false
theorem Rep.sqX{K:Frag}{M:List Addr}{H:Hp}{d:D}{v:V}{l:List D}(r:Rep K M H d v)(h:cW d=some l):∃a xs,v=.ref a/\aI K M H l xs/\∀M2 H2,aq M H M2 H2->nM (isTup d) K H2 a xs:=by
 cases r with
 |@lst _ a xs hb rr=>cases h;exact⟨a,xs,rfl,rr,λM2 H2 st=>bZ.of (st _ _ hb.2 hb.1).1⟩
 |@tup _ a xs hb rr=>
  cases h;refine⟨a,xs,rfl,rr,λM2 H2 st=>?_⟩
  have:TupAt K M2 H2 a xs:=by
   rcases hb with ⟨na,hr⟩ |hk
   . exact .inl (st.rd na hr)
   . exact .inr hk
  exact this.sq
 |@fix _ a xs hb rr=>
  cases h;refine⟨a,xs,rfl,rr,λM2 H2 st=>?_⟩
  have:mC K M2 H2 a xs:=by
   rcases hb with ⟨na,o,hr⟩ |hk
   . exact .inl ⟨(st _ _ hr na).2,o,(st _ _ hr na).1⟩
   . exact .inr hk
  exact this.sq
 |_=>cases h
theorem Ca(ta:Xm tp s.heap a xs)(tb:Xm tp s.heap b ys)
  (h:∀h',IsZip h' (s⁻¹+4) (s⁻¹+2) (s⁻¹+3) .none->IsPair h' (s⁻¹+2) (.ref s⁻¹) (.ref (s⁻¹+1))->
   IsPair h' (s⁻¹+3) .none .none->Dt tp h' s⁻¹ a 0->Dt tp h' (s⁻¹+1) b 0->h'.objs.size=s⁻¹+5->
   (∀c o,s.heap.get? c=some o->h'.get? c=some o)->Q (.ref (s⁻¹+4)) { s with heap:=h'}):wpAny (model prog w) A (call (.type "zip") [.ref a,.ref b]) Q E s:=by
 cases tp with
 |true=>exact BZ ta tb h
 |false=>exact call_zip_2 ta tb h
theorem RL{d1 d2:D}{l m:List D}(hK:z.K=X.K)(ha:cO X z [e1,e2] g [.dat d1,.dat d2] g1)(h1:cW d1=some l)(h2:cW d2=some m)(hkd:isTup d1=isTup d2)(hg:Gl X "zip")(hm:X.mg "zip"=none)(bY:starEach [e1,e2] X.env=(false,eval e1 X.env)::starEach [e2] X.env)(gQ:(backTo rp (starEach [e2] X.env)).any (·.1)=false) :
  dZ X z (.Tuple es k pos) (.Call (.Name "zip" p) [e1,e2] [] rp) g (sX l m) g1:=by
 refine dZ.of λah s σ As M H Post I Xl kk=>?_
 refine Call_ (fK I hg hm boot_zip (mE (ha.run I Xl λvs us s1 H1 aO M1 I1 r1 q1 q2 q3=>?_) bY gQ))
 cases q3 with
 |dat rp1 R=>cases R with
  |dat rp2 R=>
   cases R;obtain⟨u1,u2,rfl,ru1,ru2⟩:=vals2 r1;obtain⟨a,xs,rfl,rr1,sq1⟩:=rp1.sqX h1;obtain⟨b,ys,rfl,Dq,sq2⟩:=rp2.sqX h2;cases ru1;cases ru2;rw[<- hkd]at sq2;have sa:nM (isTup d1) X.K H1 a xs:=hK▸sq1 M1 H1 (aq.refl _ _);have sb:nM (isTup d1) X.K H1 b ys:=hK▸sq2 M1 H1 (aq.refl _ _);obtain⟨Xq,_,Xr,_⟩:=sa.real I1;obtain⟨Xs,_,Xu,_⟩:=sb.real I1;refine Ca Xr Xu λh' er eI eO t1 t2 jk hk=>kk _ _ λR kR=>?_
   refine wpAny_pyIter_zip er ?_;have I2:L2.Inv X ah σ H1 { s1 with heap:=h'}:=I1.kept (t':=s1.toks) hk;refine⟨_,[s1⁻¹+4,s1⁻¹+2,s1⁻¹+3,s1⁻¹,s1⁻¹+1],_,Itz (isTup d1) X.K a b,H1,rfl,I2,Gk (s1⁻¹+4) (s1⁻¹+2) (s1⁻¹+3) s1⁻¹ (s1⁻¹+1) a b (by refine⟨?_,?_,?_,?_⟩ <;> (intro q;have q:(_:Nat)=_:=q;lia)) (by refine⟨?_,?_,?_⟩ <;> (intro q;have q:(_:Nat)=_:=q;lia)) (by refine⟨?_,?_,?_⟩ <;> (intro q;have q:(_:Nat)=_:=q;lia)),⟨er,eI,⟨_,_,eO⟩,t1,t2⟩,λc hc=>?_,kR _ H1 aO M1 q1 q2 λM2 H2 aK=>?_⟩
   .
    have hle:s1⁻¹<=c:=by simp only[d6,nN,A5]at hc;rcases hc with rfl |rfl |rfl |rfl |rfl <;> lia
    exact I1.uI hle (I1.hok.fresh hle)
   .
    have s1':=hK▸sq1 M2 H2 aK;have s2':=hK▸sq2 M2 H2 aK;have R1:=rr1.stay aK;have R2:=Dq.stay aK;refine⟨λn d hd=>?_,xs,ys,s1',s2',?_⟩
    .
     obtain⟨x,y,f1,f2,rfl⟩:=Gm hd;obtain⟨vx,e2,e3⟩:=R1.get f1;obtain⟨vy,e4,e5⟩:=R2.get f2;refine⟨⟨xs,ys,vx,vy,s1',s2',e2,e4⟩,λw H' hy z' g' σ' aC hz' s'=>?_⟩
     obtain⟨p,u,v,w1,w2,w3,rfl,rfl⟩:=hy;have w1:=w1 xs s1';have w2:=w2 ys s2';rw[e2]at w1;cases w1;rw[e4]at w2;cases w2;exact⟨s'.laid w3,aq.laid w3,.tup (.inl ⟨s'.fresh w3,.inl aA⟩) (.cons (e3.stay (aq.laid w3)) (.cons (e5.stay (aq.laid w3)) .nil))⟩
    . rw[Gn,rr1.length,Dq.length];lia
end
end Ev
namespace L2
def zC(T:List Addr)(H:Hp):Prop:=∀b,(b∈T/\H b=some (.kN #[]))\/(b∉T/\(H b=none\/∃o xs,H b=some (.jv o (.lst xs))))
theorem Cb{P:Program}{w:World}{K:Frag}{mg mb:Str->Option Value}{CX:Al}{k:Nat}{fa a:Addr}{fd:FuncData}{x:Str}{sp:Sp}{s₁:Shared}{vs:List Value}{ns:List Int}{T:List Addr}
  (KX:K.In s₁.heap) (hT:∀q∈T,(∃c,s₁.heap.TableAt c q #[])/\K.lookup q=none) (hns:s₁.heap.Ns mainGlobals mg) (hb:s₁.heap.Ns builtinsNs mb) (hbb:∀x:Str,x≠ "__name__" ->mb x=bootBuiltins x) (hlim:s₁.heap.NoLimit) (hg:s₁.gens = #[])
  (ha:s₁.heap.get? a=some { cls:=.type "list",data:=.seq vs.toArray}) (hi:IntsAre vs ns) (hl:ns.length<=sizeLine) (hr:cD k callerA)
  (F:∀base:Heap,K.In base->base.Ns mainGlobals mg->iZ P w K mg base CX k fa fd [x] sp) (hbind:∀(s:Shared) (u:Value),BindsTo s fd ⟨[u],[]⟩ [(x,u)])
  (Vc:∀H:Hp,zC T H->bZ K H a (ns.map V.int)->sp [.ref a] H (λv _=>v=.bl true) λ_ _ _=>False)
  (hCX:∀H e s',CX [] H s₁ (λ_ _ _=>False) e s'->False) :
  codeAny (model P w) callerA (.call (.ref fa) ⟨[.ref a],[]⟩) (λr s'=>r=.ok (.ret (.bool true))/\OldK s₁.heap s'.heap/\s'.os=s₁.os/\AllBare s'.gens) s₁:=by
 have rv:=kW hi;have lenV:=hi.length;have aT:a∉T:=λh=>by
  obtain⟨⟨c,_,e⟩,_⟩:=hT a h;rw[ha]at e;cases e
 have core:∀H:Hp,zC T H->bZ K H a (ns.map V.int)->kO P w H s₁.heap->(∀b,H b≠none->b=a\/b∈T)->(H a≠none->K.lookup a=none)->
   codeAny (model P w) callerA (.call (.ref fa) ⟨[.ref a],[]⟩) (λr s'=>r=.ok (.ret (.bool true))/\OldK s₁.heap s'.heap/\s'.os=s₁.os/\AllBare s'.gens) s₁:=by
  intro H hO hS hok hA hK;have zD:∀{b:Addr}{o:Obj},s₁.heap.get? b=some o->H b=none->(rZ s₁.heap H).get? b=some o:=λe n=>DG e n
  have Wu:∀{b:Addr}{o:Obj}{es:Array DictEntry}{ep:Nat},s₁.heap.get? b=some o->o.data=.dict es ep->H b=none:=λ{b o es ep} e d=>by
   cases q:H b with
   |none=>rfl
   |some u=>
    rcases hA b (by rw[q];simp)with e' |e'
    . subst e';rw[ha]at e;cases e;have d':Data.seq vs.toArray _=Data.dict es ep:=d;cases d'
    . obtain⟨⟨c,_,e2⟩,_⟩:=hT b e';rw[e]at e2;cases e2;have d':Data.fields #[]=Data.dict es ep:=d;cases d'
  have ZQ:∀{b:Addr}{m:Str->Option Value},s₁.heap.Ns b m->(rZ s₁.heap H).Ns b m:=λ{b m} ⟨o,es,ep,e,d,r⟩=>⟨o,es,ep,zD e (Wu e d),d,r⟩
  have Oa:K.In (rZ s₁.heap H):=λb o e=>zD (KX b o e) (by
   cases q:H b with
   |none=>rfl
   |some u=>
    rcases hA b (by rw[q];simp)with e' |e'
    . subst e';rw[hK (by rw[q];simp)]at e;cases e
    .
     rw[(hT b e').2]at e;cases e)
  have hM:Mod K mg (rZ s₁.heap H):=⟨Oa,ZQ hns,⟨mb,ZQ hb,hbb⟩,let ⟨mc,h1,h2⟩:=hlim;⟨mc,ZQ h1,h2⟩⟩
  have e0:Eb P w K mg (rZ s₁.heap H) callerA [] s₁ H:=⟨rfl,hM,λb o e=>Jw e,Nat.le_of_eq (Af _ _),trivial,λb hb=>absurd (show b∈([]:List Addr)from hb) ⋯,hok,.of_eq hg⟩
  refine A7 ((F _ Oa (ZQ hns)).run callerA [] s₁ H ⟨[.ref a],[]⟩ [.ref a] [.ref a] _ _ hr e0 (hbind s₁ (.ref a)) (.cons rfl .nil) (Vc H hO hS)) λr s' h=>?_
  cases r with
  |error e=>exact (hCX H e s' h).elim
  |ok fl=>
   cases fl with
   |next=>exact False.elim h
   |brk=>exact False.elim h
   |cont=>exact False.elim h
   |ret u=>
    obtain⟨v,H',os,bare,un,Lc,r',q⟩:=h;have q':v=.bl true:=q;subst q';obtain rfl:u=Value.bool true:=r';have tabs:∀b∈T,∀o,s₁.heap.get? b=some o->∃more,o={ cls:=.none,data:=.fields #[]}/\s'.heap.get? b=some { cls:=.none,data:=.fields more}:=λb hb o e=>by
     obtain⟨⟨c,_,e2⟩,_⟩:=hT b hb;rw[e]at e2;cases e2;rcases hO b with ⟨_,z⟩ |⟨z,_⟩
     . obtain⟨more,z2⟩:=un.jR b _ z;exact⟨_,rfl,Lc b _ z2⟩
     . exact absurd hb z
    have rest:∀b,b∉T->∀o,s₁.heap.get? b=some o->s'.heap.get? b=some o:=λb hb o e=>by
     cases q:H b with
     |none=>exact un.keep b o e q (by intro z;exact absurd (show b∈([]:List Addr)from z) ⋯) ⋯
     |some u=>
      rcases hO b with ⟨z,_⟩ |⟨_,z⟩
      . exact absurd z hb
      .
       rcases z with z |⟨ob,xs,z⟩
       . rw[q]at z;cases z
       . have z2:=un.jQ b ob _ z;obtain⟨e1,_⟩:=hok b _ z;obtain⟨e2,_⟩:=Lc b _ z2;rw[e]at e1;cases e1;exact e2
    refine⟨rfl,⟨λb o e=>?_,λb o e=>?_⟩,os,bare⟩
    .
     by_cases hb:b∈T
     . obtain⟨more,rfl,e2⟩:=tabs b hb o e;obtain⟨⟨c,t⟩,_⟩:=hT b hb;exact .inr (.inl ⟨t.isCodeTable,rfl,#[],more,rfl,by rw[e2];simp⟩)
     . exact .inl (rest b hb o e)
    .
     by_cases hb:b∈T
     . obtain⟨more,rfl,e2⟩:=tabs b hb o e;exact⟨_,e2⟩
     . exact⟨_,rest b hb o e⟩
 have Gp:∀b∈T,s₁.heap.get? b=some { cls:=.none,data:=.fields #[]}:=λb hb=>by
  obtain⟨⟨c,_,e2⟩,_⟩:=hT b hb;exact e2
 cases hk:K.lookup a with
 |some o=>
  have e:=KX a o hk;rw[ha]at e;cases e;refine core (λb=>if b∈T then some (.kN #[])else none) (λb=>?_) (.inr ⟨_,vs.toArray,_,hk,rfl,rfl,rfl,by rw[dC,lenV];exact hl,by simpa using rv⟩) (λb u z=>?_) (λb z=>?_) λz=>absurd (gN aT) z
  .
   by_cases hb:b∈T
   . exact .inl ⟨hb,fN hb⟩
   . exact .inr ⟨hb,.inl (gN hb)⟩
  .
   by_cases hb:b∈T
   . have z':=(fN hb).symm.trans z;cases z';exact Gp b hb
   . have z':=(gN hb).symm.trans z;cases z'
  .
   by_cases hb:b∈T
   . exact .inr hb
   . exact absurd (gN hb) z
 |none=>
  refine core (λb=>if b∈T then some (.kN #[])else if b=a then some (.jv { cls:=.type "list",data:=.seq vs.toArray} (.lst (ns.map V.int)))else none) (λb=>?_) (.inl (.inr ⟨{ cls:=.type "list",data:=.seq vs.toArray},(gN aT).trans (fN rfl)⟩)) (λb u z=>?_) (λb z=>?_) λ_=>hk
  .
   by_cases hb:b∈T
   . exact .inl ⟨hb,fN hb⟩
   .
    refine .inr ⟨hb,?_⟩;by_cases hb2:b=a
    . exact .inr ⟨_,_,(gN hb).trans (fN hb2)⟩
    . exact .inl ((gN hb).trans (gN hb2))
  .
   by_cases hb:b∈T
   . have z':=(fN hb).symm.trans z;cases z';exact Gp b hb
   .
    have z1:=(gN hb).symm.trans z;by_cases hb2:b=a
    . have z':=(fN hb2).symm.trans z1;cases z';subst hb2;exact⟨ha,by rw[fR];exact hl,vs,_,rv,ha⟩
    . have z':=(gN hb2).symm.trans z1;cases z'
  .
   by_cases hb:b∈T
   . exact .inr hb
   .
    by_cases hb2:b=a
    . exact .inl hb2
    . exact absurd ((gN hb).trans (gN hb2)) z
end L2
namespace Ev
open L2
abbrev lG(p:Addr)(o:Obj):HO:=.ext λh=>h.get? p=some o
section
theorem S.grow(s:S z g σ As M H){q:Addr}{qn:Str}{ps:Array Value}{pos:Pos}{c:Addr}(hq:(q,qn)∈z.T)(hu:∀p∈z.T,p.1=q->p.2=qn)(hp:H q=some (.kN ps))(ht:TriplesOk ps.toList)(hc:H c=some (gS qn c))
  (ok:TriplesOk (ps ++ #[rawInt pos.line,rawInt pos.col,.ref c]).toList) (am:∀pos' cv,codeAmong pos' (ps ++ #[rawInt pos.line,rawInt pos.col,.ref c]).toList=some cv->codeAmong pos' ps.toList=some cv\/cv=.ref c) :
  S z g σ As M (upd H q (.kN (ps ++ #[rawInt pos.line,rawInt pos.col,.ref c]))) where
 sl:=s.sl.stay (aq.write (s.iu _ (s.tm _ hq))) λa ha u e=>by
  rcases s.live a (s.sub a ha)with ⟨xs,e2⟩ |e2
  . rw[az (λz=>by rw[z,hp]at e2;cases e2)];exact e
  .
   exact absurd e2 (λw=>by
    have:∃xs,H a=some (.lst xs):=by
     have key:∀{g:G}{σ:Sg}{As:List Addr},Slots z.K M H g σ As->∀a∈As,∃xs,H a=some (.lst xs):=λq=>by
      induction q with
      |nil=>intro a h;cases h
      |no _ ih=>exact ih
      |dat _ _ ih=>exact ih
      |own e _ _ ih=>intro a h;rcases d6.mp h with rfl |h;exact⟨_,e⟩;exact ih a h
     exact key s.sl a ha
    obtain⟨xs,e3⟩:=this;exact s.N5 e3 w)
 nd:=s.nd
 sub:=s.sub
 own:=s.own
 live:=λm hm=>by
  rcases s.live m hm with ⟨xs,e⟩ |e
  . exact .inl ⟨xs,by rw[az (λz=>by rw[z,hp]at e;cases e)];exact e⟩
  . exact .inr e
 keep:=λb u e hb hT=>by
  rw[az (λz=>hT (by rw[z];exact i7.mpr ⟨_,hq,rfl⟩))];exact s.keep b u e hb hT
 iu:=s.iu
 m0:=s.m0
 bm:=s.bm
 iT:=s.iT
 tab:=λp h=>by
  have lam:∀d Vi,H d=some (gS Vi d)->upd H q (.kN (ps ++ #[rawInt pos.line,rawInt pos.col,.ref c])) d=some (gS Vi d):=λd Vi e=>by
   rw[az (λz=>by rw[z,hp]at e;cases e)];exact e
  by_cases e:p.1=q
  .
   obtain⟨p1,p2⟩:=p;have e1:p1=q:=e;have e2:p2=qn:=hu _ h e;subst e1;subst e2;refine⟨_,aA,ok,λpos' cv ec=>?_⟩
   rcases am pos' cv ec with ec |rfl
   . obtain⟨ps',h1,_,h3⟩:=s.tab _ h;have h1:H p1=some (.kN ps'):=h1;rw[hp]at h1;cases h1;obtain⟨d,e1,e2⟩:=h3 pos' cv ec;exact⟨d,e1,lam d _ e2⟩
   . exact⟨c,rfl,lam c _ hc⟩
  .
   obtain⟨ps',h1,h2,h3⟩:=s.tab p h;refine⟨ps',by rw[az e];exact h1,h2,λpos' cv ec=>?_⟩
   obtain⟨d,e1,e2⟩:=h3 pos' cv ec;exact⟨d,e1,lam d _ e2⟩
 tm:=s.tm
 tt:=s.tt
end
theorem sY(h:TriplesOk l):TriplesOk (l++[.int i a,.int j b,v]):=by
 fun_induction TriplesOk l with
 |case1=>trivial
 |case2 _ _ _ _ _ rest ih=>exact ih h
 |case3=>exact h.elim
theorem xM(h:TriplesOk l)(e:codeAmong pos (l++[.int i a,.int j b,v])=some cv):codeAmong pos l=some cv\/cv=v:=by
 fun_induction TriplesOk l with
 |case1=>
  simp only[AD,codeAmong]at e;split at e
  . exact .inr (oQ e).symm
  . cases e
 |case2 line _ col _ c rest ih=>
  simp only[List.cons_append,codeAmong]at e ⊢
  split at e
  . rename_i q;rw[fN q];exact .inl e
  . rename_i q;rw[gN q];exact ih h e
 |case3=>exact h.elim
section
theorem zE(hok:kO P w H h)(hq:H q=some (.kN ps))(hq':H' q=some (.kN (ps++more)))(k:∀b o,b≠q->h.get? b=some o->h'.get? b=some o)(tq:∃o,h'.get? q=some o)
  (kH:∀b,b<h.objs.size->b≠q->H' b=H b):Un fs [] H H' h h' where
 keep:=λb o e n _ _=>k b o (λz=>by rw[z,hq]at n;cases n) e
 slot:=λb o e n _ _=>⟨o.slots,k b o (λz=>by rw[z,hq]at n;cases n) e⟩
 free:=λb o e n _=>by rw[kH b (eP e) (λz=>by rw[z,hq]at n;cases n)];exact n
 there:=λb o e _=>by
  by_cases hb:b=q
  . subst hb;exact tq
  . exact⟨o,k b o hb e⟩
 tups:=λb xs e=>by rw[kH b (hok.lt e) (λz=>by rw[z,hq]at e;cases e)];exact e
 jQ:=λb o u e=>by rw[kH b (hok.lt e) (λz=>by rw[z,hq]at e;cases e)];exact e
 jR:=λb ps' e=>by
  by_cases hb:b=q
  . subst hb;rw[hq]at e;cases e;exact⟨_,hq'⟩
  . rw[kH b (hok.lt e) hb];exact⟨#[],by rw[e];simp⟩
end
section
theorem Gq(e:h.get? p=some o):cY P w H h p (lG p o):=⟨e,⟨o,e⟩,λ_ _ e k=>k _ e⟩
theorem Ld(e:h.CodeRec (.ref c) q):cY P w H h c (gS q c):=by
 refine⟨e,?_,λh1 h2 e k=>?_⟩
 . obtain⟨c',o,vs,t,e1,e2,_⟩:=e;cases e1;exact⟨o,e2⟩
 . obtain⟨c',o,vs,t,e1,e2,e3⟩:=e;cases e1;exact⟨c,o,vs,t,rfl,k _ e2,e3⟩
theorem Gr(I:L2.Inv X ah σ H s)(hs:S z g σ As M H)(hq:(q,qn)∈z.T)(hu:∀p∈z.T,p.1=q->p.2=qn)(hcode:X.env.code=.ref c)(C:PySem.W.CodeHd X.base c q)(hqn:X.env.qual ++ "<lambda>"=qn)
  (hb:X.base.BuiltinsAt X.mg q) (Xw:mainGlobals≠q) (hdef:defaultsOf params X.env=([],[])) (B:aM X.env.scope scope)
  (h:∀(p c':Addr) (gX:Value) (cl:List (Str×Addr)) (H':Hp) (s':Shared),L2.Inv X ah σ H' s'->S z g σ As M H'->aq M H M H'->p∉M->
   H' p=some (lG p (PySem.W.kla_obj "<lambda>" qn params body scope cl ((X.mg "__name__").getD .none) c' gX))->H' c'=some (gS qn c')->
   (∀x c,cl.lookup x=some c->X.env.cells.lookup x=some c/\(x,NameKind.free)∈scope.names)->(∀y∈scope.names,y.2=.free->∃c,cl.lookup y.1=some c)->(∀b xs,H b=some (.lst xs)->H' b=some (.lst xs))->Q (.ref p) s') :
  wpAny (model X.prog X.w) X.A (eval (.Lambda params body scope pos) X.env) Q E s:=by
 refine PySem.W.kla_eval hdef ?_;rw[hqn];obtain⟨ps,hp,ht,hcs⟩:=hs.tab _ hq;have hp:H q=some (.kN ps):=hp;have hP:s.heap.get? q=some (PySem.W.tabObj ps):=I.hok q _ hp;obtain⟨cl,hcl,Cd,Le⟩:=oh (scope:=scope) (env:=X.env) λy hy e=>I.ok.has y.1 (by
  rcases B.free y hy e with e |e
  . exact .inl e
  .
   exact .inr e)
 have qlt:q<s⁻¹:=eP hP;cases hf:codeAmong pos ps.toList with
 |some cv=>
  obtain⟨c',rfl,hc'⟩:=hcs pos cv hf;refine PySem.W.kla_makeFunctionHit hcl I.ok.glob (I.ok.mod.glob.keeps I.bk) hcode (C.keeps I.bk) hP ht hf (hb.keeps I.bk) λgX h' tk hk jk=>?_
  have hk2:∀b o,s.heap.get? b=some o->(h'.push (PySem.W.kla_obj "<lambda>" qn params body scope cl ((X.mg "__name__").getD .none) c' gX)).get? b=some o:=λb o e=>bP _ (hk b o e)
  have fr:H h'.objs.size=none:=I.hok.fresh jk;have kH:∀b,b<s⁻¹->b≠q->upd H h'.objs.size (lG h'.objs.size (PySem.W.kla_obj "<lambda>" qn params body scope cl ((X.mg "__name__").getD .none) c' gX)) b=H b:=λb hb _=>az (l4 (eD hb jk))
  have Vi:q≠h'.objs.size:=l4 (eD qlt jk);refine h _ c' gX cl (upd H h'.objs.size (lG h'.objs.size (PySem.W.kla_obj "<lambda>" qn params body scope cl ((X.mg "__name__").getD .none) c' gX))) _ (I.call' (s':={ s with heap:=h'.push (PySem.W.kla_obj "<lambda>" qn params body scope cl ((X.mg "__name__").getD .none) c' gX),toks:=tk}) (ch:=[]) rfl
   (zE (more:=#[]) I.hok hp (by rw[az Vi,hp];simp) (λb o _ e=>hk2 b o e) ⟨_,hk2 _ _ hP⟩ kH) (I.hok.laid hk2 jk (Gq (eJ _ rfl))) I.bare λb z=>nomatch z) (hs.laid fr) (aq.laid fr) (hs.fresh fr) aA ?_ Cd Le λb xs e=>by rw[az (aJ e fr)];exact e
  rw[az (λz=>by rw[z,fr]at hc';cases hc')];exact hc'
 |none=>
  refine PySem.W.kla_makeFunction hcl I.ok.glob (I.ok.mod.glob.keeps I.bk) hcode (C.keeps I.bk) hP ht hf Xw (hb.keeps I.bk) λc' gX h' tk hx hc1 hc2 Xx hP'=>?_
  have jk:s⁻¹<=h'.objs.size:=CC (Nat.lt_of_le_of_lt hc1 hc2);have hk2:∀b o,b≠q->s.heap.get? b=some o->(h'.push (PySem.W.kla_obj "<lambda>" qn params body scope cl ((X.mg "__name__").getD .none) c' gX)).get? b=some o:=λb o ne e=>bP _ (hx b o ne e)
  have frc:H c'=none:=I.hok.fresh hc1;have frp:H h'.objs.size=none:=I.hok.fresh jk;have qc:q≠c':=l4 (eD qlt hc1);have qp:q≠h'.objs.size:=l4 (eD qlt jk);have cp:c'≠h'.objs.size:=l4 hc2;have s1:=hs.laid (o:=gS qn c') frc;have e1:upd H c' (gS qn c') q=some (.kN ps):=by rw[az qc];exact hp
  have s2:=s1.grow (pos:=pos) hq hu e1 ht aA (by rw[Array.toList_append];exact sY ht) (λpos' cv e=>xM ht (by rw[Array.toList_append]at e;exact e))
  have Xy:upd (upd H c' (gS qn c')) q (.kN (ps ++ #[rawInt pos.line,rawInt pos.col,.ref c'])) h'.objs.size=none:=by rw[az qp.symm,az cp.symm];exact frp
  have s3:=s2.laid (o:=lG h'.objs.size (PySem.W.kla_obj "<lambda>" qn params body scope cl ((X.mg "__name__").getD .none) c' gX)) Xy;have kH:∀b,b<s⁻¹->b≠q->upd (upd (upd H c' (gS qn c')) q (.kN (ps ++ #[rawInt pos.line,rawInt pos.col,.ref c']))) h'.objs.size (lG h'.objs.size (PySem.W.kla_obj "<lambda>" qn params body scope cl ((X.mg "__name__").getD .none) c' gX)) b=H b:=λb hb ne=>by
   rw[az (l4 (eD hb jk)),az ne,az (l4 (eD hb hc1))]
  have hq3:upd (upd (upd H c' (gS qn c')) q (.kN (ps ++ #[rawInt pos.line,rawInt pos.col,.ref c']))) h'.objs.size (lG h'.objs.size (PySem.W.kla_obj "<lambda>" qn params body scope cl ((X.mg "__name__").getD .none) c' gX)) q=some (.kN (ps ++ #[rawInt pos.line,rawInt pos.col,.ref c'])):=by rw[az qp];exact aA
  have hc3:upd (upd (upd H c' (gS qn c')) q (.kN (ps ++ #[rawInt pos.line,rawInt pos.col,.ref c']))) h'.objs.size (lG h'.objs.size (PySem.W.kla_obj "<lambda>" qn params body scope cl ((X.mg "__name__").getD .none) c' gX)) c'=some (gS qn c'):=by rw[az cp,az qc.symm];exact aA
  have hP2:=bP (PySem.W.kla_obj "<lambda>" qn params body scope cl ((X.mg "__name__").getD .none) c' gX) hP';have Lc:kO X.prog X.w (upd (upd (upd H c' (gS qn c')) q (.kN (ps ++ #[rawInt pos.line,rawInt pos.col,.ref c']))) h'.objs.size (lG h'.objs.size (PySem.W.kla_obj "<lambda>" qn params body scope cl ((X.mg "__name__").getD .none) c' gX))) (h'.push (PySem.W.kla_obj "<lambda>" qn params body scope cl ((X.mg "__name__").getD .none) c' gX)):=λb u e=>by
   by_cases b1:b=h'.objs.size
   . subst b1;rw[aA]at e;cases e;exact Gq (eJ _ rfl)
   .
    by_cases b2:b=q
    . subst b2;rw[hq3]at e;cases e;exact hP2
    .
     by_cases b3:b=c'
     .
      subst b3;rw[hc3]at e;cases e;exact Ld (by
       obtain⟨d,o,vs,t,e1,e2,e3⟩:=Xx;exact⟨d,o,vs,t,e1,bP _ e2,e3⟩)
     .
      rw[az b1,az b2,az b3]at e;refine (I.hok b u e).stay (λd o hd eo=>hk2 d o (λz=>?_) eo) (λd ed=>?_) λd xs ed=>?_
      .
       rcases hd with hd |hd
       . exact b2 (hd▸z)
       . rw[z,hp]at hd;cases hd
      . rw[kH d (I.hok.lt ed) (λz=>by rw[z,hp]at ed;cases ed)];exact ed
      . rw[kH d (I.hok.lt ed) (λz=>by rw[z,hp]at ed;cases ed)];exact ed
  refine h _ c' gX cl _ _ (I.call' (s':={ s with heap:=h'.push (PySem.W.kla_obj "<lambda>" qn params body scope cl ((X.mg "__name__").getD .none) c' gX),toks:=tk}) (ch:=[]) rfl
   (zE I.hok hp hq3 hk2 ⟨_,hP2⟩ kH) Lc I.bare λb z=>nomatch z) s3 ?_ (hs.fresh frp) aA hc3 Cd Le λb xs e=>by rw[az (aJ e frp),az (λz=>by rw[z,hp]at e;cases e),az (aJ e frc)];exact e
  exact ((aq.laid frc).trans (aq.write (hs.iu _ (hs.tm _ hq)))).trans (aq.laid Xy)
end
noncomputable def vh(X:Cx)(N:List Str)(qual:Str)(scope:Scope)(p:Addr)(cd:Value)(cl:List (Str×Addr))(s:Shared)(H:Hp)(xe:Value->Shared->Prop):Cx where
 prog:=X.prog
 w:=X.w
 K:=X.K
 mg:=X.mg
 base:=X.base
 A:=X.A.deeper (PySem.W.envX qual scope s⁻¹ p cd cl)
 N:=N
 s₀:=s
 H₀:=H
 env:=PySem.W.envX qual scope s⁻¹ p cd cl
 outer:=X.stack
 stack:=PySem.W.envX qual scope s⁻¹ p cd cl::X.stack
 ex:=[]
 calm:=true
 fn:=λ_=>false
 pn:=[]
 xe:=xe
structure lH(N:List Str)(σ:Sg)(scope:Scope)(cl:List (Str×Addr))(H:Hp)(h:Heap):Prop where
 inj:∀x y c,cl.lookup x=some c->cl.lookup y=some c->x=y
 has:∀x,scope.names.lookup x=some .cell\/scope.names.lookup x=some .free->∃c,cl.lookup x=some c
 cell:∀x c,cl.lookup x=some c->H c=none/\∃v,h.IsCell c v
 loc:∀(i:Nat) (x:Str) (v:V),N[i]?=some x->σ[i]?=some (some v)->gR scope x->scope.names.lookup x=some .free/\∃u c,RelV v u/\cl.lookup x=some c/\h.IsCell c (some u)
 len:σ.length=N.length
section
theorem Lf(I:L2.Inv X ah σ H s)(hc:X.calm=true)(hk:scope.kind=.function)(C:lH N σ0 scope cl H s.heap)(hk₁:∀b o,s.heap.get? b=some o->h₁.get? b=some o)(hns:h₁.Ns s⁻¹ m) :
  L2.Inv (vh X N qual scope p cd cl s H xe) [] σ0 H { s with heap:=h₁,toks:=tk}:=by
 have e0:=I.JG;refine⟨⟨e0.mod,hk,rfl,rfl,dS _,C.inj,C.has,(λ_ _ h=>nomatch h),λ_=>I.ok.hd hc,Around.frames_deeper e0.frames,.inr ⟨rfl,rfl⟩,(λb z=>nomatch z),e0.bs,e0.DK,(λ_ _ _ z=>nomatch z),(λb z=>nomatch z),e0.jS,e0.Jy⟩,
  rfl,e0.bare,Un.kept hk₁,⟨m,hns,λi x v h1 h2 h3=>?_⟩,λx c e=>?_,e0.hok.fresh (dS _),λx c e=>(C.cell x c e).1,(λp hp=>nomatch hp),e0.hok.kept hk₁,C.len⟩
 . obtain⟨f,u,c,r,e1,e2⟩:=C.loc i x v h1 h2 h3;exact⟨u,r,.inr ⟨.inr f,c,e1,e2.keeps hk₁⟩⟩
 . obtain⟨v,q⟩:=(C.cell x c e).2;exact⟨v,q.keeps hk₁⟩
theorem Gs{z:Z}{g g':G}{As M:List Addr}{body:Expr}{params:Arguments}{pm gX:Value}{c' C:Addr}{R:Result->Shared->Prop}(I:L2.Inv X ah σ H s)(hc:X.calm=true)(hroom:X.A.depth<recursionLimit)
  (hp:s.heap.get? p=some (PySem.W.kla_obj "<lambda>" qual params body scope cl pm c' gX)) (Xx:s.heap.CodeRec (.ref c') qual) (hpar:bindArgs (PySem.W.kla_fn "<lambda>" qual params body scope cl pm (.ref c') gX) ⟨[],[]⟩=pure [])
  (hco:scope.isCoroutine=false) (hgen:scope.isGenerator=false) (hk:scope.kind=.function) (hnc:∀x∈scope.names,x.2≠.cell) (Cl:lH N σ0 scope cl H s.heap) (hS:S z g σ0 As M H)
  (hb:∀xe,PassesOwn (model X.prog X.w) (X.A.deeper (PySem.W.envX qual scope s⁻¹ p (.ref c') cl)) (PySem.W.envX qual scope s⁻¹ p (.ref c') cl) xe->FG (vh X N qual scope p (.ref c') cl s H xe) z body g C g')
  (hR:∀x H1 aO M1 s'',Ds X.prog X.w X.stack H s (λc o h=>c=.ref C/\o=none/\h=H1) (.ref x) s''->S z g' σ0 aO M1 H1->aq M H M1 H1->R (.error (.ref x)) s'') :
  codeAny (model X.prog X.w) X.A (.call (.ref p) ⟨[],[]⟩) R s:=by
 refine PySem.W.kla_callFunE hroom hp rfl hco hgen rfl Xx ?_;rw[hpar];refine dE (wpAny_newFunctionEnv hnc (λy hy=>nomatch hy) (λh₁ hns hsb=>⟨(I.nolimit).fresh _ hsb,?_⟩) hk)
 have hk₁:∀b o,s.heap.get? b=some o->h₁.get? b=some o:=λb o e=>hsb.extBut b o (l4 (eP e)) (bP _ e)
 refine PySem.W.kla_codeExpr ?_;obtain⟨t,q,k⟩:=hb (λe' s'=>wpAny (model X.prog X.w) (X.A.deeper (PySem.W.envX qual scope s⁻¹ p (.ref c') cl)) (leaving (PySem.W.envX qual scope s⁻¹ p (.ref c') cl) e') (λ_ s''=>R (.error e') s'') (λe'' s''=>R (.error e'') s'') s') PassesOwn.leaving
 have J:=Lf (N:=N) (qual:=qual) (p:=p) (cd:=.ref c') (σ0:=σ0) (tk:=s.toks+([]:List (Str×Value)).length) (xe:=λe' s'=>wpAny (model X.prog X.w) (X.A.deeper (PySem.W.envX qual scope s⁻¹ p (.ref c') cl)) (leaving (PySem.W.envX qual scope s⁻¹ p (.ref c') cl) e') (λ_ s''=>R (.error e') s'') (λe'' s''=>R (.error e'') s'') s') I hc hk Cl hk₁ hns
 refine l5 (q [] _ σ0 H (λ_ _=>False) J (k σ0 As M H _ hS λpins1 s1 H1 aO M1 x I1 S1 st fl=>?_)) (λv s' h=>?_) λ_ _ h=>h
 . exact rD I1 rfl rfl rfl fl λs'' cx=>hR x H1 aO M1 s'' cx S1 st
 . obtain⟨_,_,_,_,h⟩:=h;exact h.elim
end
section
theorem Inv.cnl(I:L2.Inv X [] σ H s):∀y c,X.env.cells.lookup y=some c->c≠X.env.locals:=λy c e q=>by
 obtain⟨v,o,h1,h2⟩:=I.cell y c e;obtain⟨m,⟨o',es,ep,h3,h4,_⟩,_⟩:=I.loc;rw[q,h3]at h1;cases h1;rw[h4]at h2;cases h2
theorem Inv.touch(I:L2.Inv X [] σ H s)(hp:X.pn=[])(hT:X.s₀.heap.get? T=none)(hH:H T=none)(hf:∃o vs,s.heap.get? T=some o/\o.data=.fields vs)(k:∀b o,b≠T->s.heap.get? b=some o->h'.get? b=some o)(kT:∃o,h'.get? T=some o) :
  L2.Inv X [] σ H { s with heap:=h'}:=by
 obtain⟨oT,ts,eT,dT⟩:=hf;have Lg:∀b o,X.s₀.heap.get? b=some o->b≠T:=λb o e q=>by rw[q,hT]at e;cases e
 have Xz:∀b o,s.heap.get? b=some o->(∀vs,o.data≠.fields vs)->b≠T:=λb o e d q=>by rw[q,eT]at e;cases e;exact d _ dT
 have cellK:∀c v,s.heap.IsCell c v->h'.IsCell c v:=λc v ⟨o,e,d⟩=>⟨o,k c o (Xz c o e λvs q=>by rw[d]at q;cases q) e,d⟩
 obtain⟨m,⟨o,es,ep,e,d,r⟩,hlk⟩:=I.loc;refine⟨I.ok,I.os,I.bare,⟨λb o e n hb hx=>?_,λb o e n hb hx=>?_,I.base.free,λb o e hx=>?_,I.base.tups,I.base.jQ,I.base.jR⟩,⟨m,⟨o,es,ep,k _ _ (Xz _ _ e λvs q=>by rw[d]at q;cases q) e,d,r⟩,λi y v h1 h2 h3=>?_⟩,λy c e=>?_,I.free,I.dP,λp hp2=>?_,λb u e=>?_,I.len⟩
 . exact k b o (Lg b o e) (I.base.keep b o e n hb hx)
 . obtain⟨sl,e1⟩:=I.base.slot b o e n hb hx;exact⟨sl,k b _ (Lg b o e) e1⟩
 . obtain⟨o',e1⟩:=I.base.there b o e hx;exact⟨o',k b _ (Lg b o e) e1⟩
 . obtain⟨u,r,q⟩:=hlk i y v h1 h2 h3;exact⟨u,r,q.imp id λ⟨q1,c,q2,q3⟩=>⟨q1,c,q2,cellK c _ q3⟩⟩
 . obtain⟨v,q⟩:=I.cell y c e;exact⟨v,cellK c v q⟩
 . rw[hp]at hp2;cases hp2
 .
  refine (I.hok b u e).stay (λc w hc q=>k c w (λz=>?_) q) (λ_ q=>q) λ_ _ q=>q
  subst z;rcases hc with rfl |hc
  . rw[hH]at e;cases e
  . rw[hH]at hc;cases hc
theorem vj(I:L2.Inv X [] σ H s)(hp:X.pn=[])(fl:uD X.s₀.heap x C H s.heap)(h:∀s',L2.Inv X [] σ H s'->uD X.s₀.heap x C H s'.heap->Q () s') :
  wpAny M A (setFlight (.ref x) none) Q E s:=by
 obtain⟨⟨oe,vs,he,hc,bE,hd,jk,hT⟩,Vd,Ve⟩:=id fl;unfold setFlight;rcases hT with hT |⟨T,oT,ts,h1,Rq,Zx,Zy,Jo,Jp,h3⟩
 . refine aS (mI he hd hT ?_);rw[gN ⋯];exact dE (h s I fl)
 .
  refine aS (mI he hd h1 ?_);rw[fN (show (Value.ref T != Value.none)=true from by simp)]
  refine AX Jo Jp (yB.mp h3).1 ?_;have other:∀b,b≠T->(s.heap.update T (Obj.mapFields (·.setIfInBounds 3 Value.none))).get? b=s.heap.get? b:=λb hb=>i9 _ _ (mP hb)
  have XC:=v6 Jp (·.setIfInBounds 3 Value.none);have Rj:=oS (Obj.mapFields (·.setIfInBounds 3 Value.none)) Jo (u4 XC);refine h _ (Inv.touch I hp Zx Zy ⟨oT,ts,Jo,Jp⟩ (λb o hb e=>(other b hb).trans e) ⟨_,Rj⟩) ⟨⟨oe,vs,(other x (mP Rq)).trans he,hc,bE,hd,jk,.inr ⟨T,_,_,h1,Rq,Zx,Zy,Rj,XC,?_⟩⟩,Vd,Ve⟩
  have:=(yB.mp h3).1;simp[this]
theorem Inv.RM(I:L2.Inv X [] σ H s)(hp:X.pn=[])(fl:uD X.s₀.heap x C H s.heap):L2.Inv X [] σ (upd H x (xq C x)) s:=by
 obtain⟨⟨oe,vs,he,hc,bE,hd,jk,hT⟩,Vd,Ve⟩:=id fl;have Lg:∀b o,X.s₀.heap.get? b=some o->b≠x:=λb o e q=>by rw[q,Vd]at e;cases e
 have Xz:∀b o,s.heap.get? b=some o->(∀vs,o.data≠.fields vs)->b≠x:=λb o e d q=>by rw[q,he]at e;cases e;exact d _ hd
 have XD:∀b u,H b=some u->b≠x:=λb u e q=>by rw[q,Ve]at e;cases e
 refine⟨I.ok,I.os,I.bare,⟨I.base.keep,I.base.slot,λb o e n hx=>?_,I.base.there,λb xs e=>?_,λb o u e=>?_,λb ps e=>?_⟩,I.loc,I.cell,?_,λy c e=>?_,λp hp2=>?_,λb u e=>?_,I.len⟩
 . rw[az (Lg b o e)];exact I.base.free b o e n hx
 . have:=I.base.tups b xs e;rw[az (XD _ _ this)];exact this
 . have:=I.base.jQ b o u e;rw[az (XD _ _ this)];exact this
 . obtain⟨more,this⟩:=I.base.jR b ps e;exact⟨more,by rw[az (XD _ _ this)];exact this⟩
 . obtain⟨m,⟨o,es,ep,e,d,_⟩,_⟩:=I.loc;rw[az (Xz _ _ e λvs q=>by rw[d]at q;cases q)];exact I.free
 . obtain⟨v,o,e1,d⟩:=I.cell y c e;rw[az (Xz _ _ e1 λvs q=>by rw[d]at q;cases q)];exact I.dP y c e
 . rw[hp]at hp2;cases hp2
 .
  by_cases hb:b=x
  .
   subst hb;rw[aA]at e;cases e;refine⟨⟨oe,he,hc,?_,bE⟩,⟨oe,he⟩,λh1 h2 ⟨o,q,r⟩ k=>⟨o,k o q,r⟩⟩
   unfold PySem.W.notCls;rw[hd]
  . rw[az hb]at e;exact (I.hok b u e).stay (λ_ _ _ q=>q) (λc q=>by rw[az (XD _ _ q)];exact q) λc xs q=>by rw[az (XD _ _ q)];exact q
abbrev Cx.marked(X:Cx)(e:Value)(E:Value->Shared->Prop):Cx:={ X with A:=X.A.mark (some e),calm:=false,xe:=E}
theorem Inv.marked(I:L2.Inv X ah σ H s)(e:Value)(E:Value->Shared->Prop):L2.Inv (Cx.marked X e E) ah σ H s:=
 ⟨⟨I.ok.mod,I.ok.kind,I.ok.glob,I.ok.blt,I.ok.above,I.ok.inj,I.ok.has,I.ok.Ph,(λh=>nomatch h),I.ok.frames,I.ok.stk,I.ok.Va,I.ok.bs,I.ok.DK,I.ok.uF,I.ok.wI,I.ok.jS,I.ok.Jy⟩,I.os,I.bare,I.base,I.loc,I.cell,I.free,I.dP,I.pin,I.hok,I.len⟩
theorem Inv.unmarked(ok:X.Ok)(I:L2.Inv (Cx.marked X e E) ah σ H s):L2.Inv X ah σ H s:=
 ⟨ok,I.os,I.bare,I.base,I.loc,I.cell,I.free,I.dP,I.pin,I.hok,I.len⟩
theorem Inv.gone(I:L2.Inv X [] σ H s)(hp:X.pn=[])(hN:X.N.Nodup)(hi:X.N[i]?=some n)(hlk:∀(j:Nat) (y:Str) (v:V),X.N[j]?=some y->σ[j]?=some (some v)->gR X.env.scope y->∃u,RelV v u/\Look X.env s.heap m y u)
  {h':Heap}{w:Option Value}{tk:Nat} (hn':h'.Ns X.env.locals (λy=>if y=n then w else m y)) (hs:Heap.SameBut X.env.locals s.heap h'):L2.Inv X [] (σ.set i none) H { s with heap:=h',toks:=tk}:=by
 have Lg:∀b o,X.s₀.heap.get? b=some o->b≠X.env.locals:=λb o e=>l4 (eD (eP e) I.ok.above)
 refine⟨I.ok,I.os,I.bare,⟨λb o e n hb hx=>?_,λb o e n hb hx=>?_,I.base.free,λb o e hx=>?_,I.base.tups,I.base.jQ,I.base.jR⟩,⟨_,hn',λj y v h1 h2 h3=>?_⟩,λy c e=>?_,I.free,I.dP,λp hp2=>?_,λb u e=>?_,by rw[pV];exact I.len⟩
 . exact (hs.2 b (Lg b o e)).trans (I.base.keep b o e n hb hx)
 . obtain⟨sl,e1⟩:=I.base.slot b o e n hb hx;exact⟨sl,(hs.2 b (Lg b o e)).trans e1⟩
 . obtain⟨o',e1⟩:=I.base.there b o e hx;exact⟨o',(hs.2 b (Lg b o e)).trans e1⟩
 .
  by_cases hj:j=i
  .
   subst hj;have hl:j<σ.length:=by rw[I.len];exact (b0.mp h1).1
   rw[fI hl]at h2;cases h2
  .
   rw[eM (mP hj)]at h2;obtain⟨u,r,q⟩:=hlk j y v h1 h2 h3;refine⟨u,r,?_⟩;have hyn:y≠n:=λq=>hj (nU hN h1 (q▸hi))
   rcases q with ⟨k,e⟩ |⟨k,c,e,z⟩
   . exact .inl ⟨k,by show (if y=n then w else m y)=some u;rw[gN hyn];exact e⟩
   . exact .inr ⟨k,c,e,z.sameBut hs (Inv.cnl I y c e)⟩
 . obtain⟨v,q⟩:=I.cell y c e;exact⟨v,q.sameBut hs (Inv.cnl I y c e)⟩
 . rw[hp]at hp2;cases hp2
 .
  refine (I.hok b u e).stay (λc w hc q=>(hs.2 c (λz=>?_)).trans q) (λ_ q=>q) λ_ _ q=>q
  subst z;rcases hc with hc |hc
  . rw[<- hc,I.free]at e;cases e
  . rw[I.free]at hc;cases hc
end
end Ev
namespace PySem
section
theorem jh{h:Heap}{g:Array GenState}{d:Drawn}{t:Nat}{os:OsState}{e:Addr}{oe:Obj}{Q:Bool->Shared->Prop}
  (hC:h.get? C=some (excClassObj nm q C N bs bm hdct sn sub ab col dd k0 k1 k2 k3 k5 newId)) (hD:h.get? D=some (excClassObj nm' q' D N' bs' bm' XF sn' sub' ab' col' dd' k0' k1' k2' k3' k5' newId'))
  (he:h.get? e=some oe) (hcls:oe.cls=.ref C) (hbase:bm'.contains (.type "BaseException")=true) (hup:(Value.ref C::bm).contains (.ref D)=true)
  (hq:Q true ⟨h,g,d,t,os⟩):wpAny M A (excMatches (.ref e) (.ref D)) Q E ⟨h,g,d,t,os⟩:=by
 have hcB:(Value.ref D::bm').contains (.type "BaseException")=true:=by rw[List.contains_cons,hbase,Bool.or_true]
 have f:=tc_notTuple;unfold excMatches
 repeat (first | (with_reducible refine wpAny_loadPart_at he ?_;rw[hcls]) |with_reducible refine wpAny_loadPart_at hD ?_ | (with_reducible refine wpAny_isSubtype_exc hD ?_;rw[hcB]) | (with_reducible refine wpAny_isSubtype_exc hC ?_;rw[hup]) |wp_step)
 exact hq
end
end PySem
namespace Ev
open L2
noncomputable def vn(K:Frag)(C D:Addr):Bool:=match K.lookup C with
 |some ⟨_,_,.cls cd,_⟩=>cd.mro.contains (.ref D)
 |_=>false
section
variable{x C D:Addr}
theorem Ce(I:L2.Inv X [] σ H s)(hp:X.pn=[])(bY:X.stack=X.env::X.outer)(hf:X.env.frame=some X.env.locals)(hex:X.ex=[])(fl:uD X.s₀.heap x C H s.heap)(hN:X.N.Nodup)
  (hg:Gl X ke) (hm:X.mg ke=some (.ref D)) (jt:(ke==("__debug__":Str))=false) (qC:fM X.K C) (qD:fM X.K D) (up:vn X.K C D=true)
  (ZR:X.N[ie]?=some en) (len:X.env.scope.names.lookup en=some .local) (den:(en==("__debug__":Str))=false) (cen:(en==("__classdict__":Str))=false)
  (hir:X.N[ir]?=some er) (ler:Loc X.env.scope er) (fer:X.fn er=true\/X.env.scope.names.lookup er=some .local) (hsw:swapsWith (.Name en vo) (some (.Name er vq)) bG.line X.env=pure false)
  (h:∀s',L2.Inv X [] (((σ.set ie (some (.ref x))).set ir (some (.ref x))).set ie none) (upd H x (xq C x)) s'->Q .next s') :
  wpAny (model X.prog X.w) X.A (noteFrame (.ref x) X.env) (λ_ s2=>wpAny (model X.prog X.w) X.A (setFlight (.ref x) none) (λ_ s3=>wpAny (model X.prog X.w) X.A (handleBy (.ref x) X.env [.ExceptHandler (some (.Name ke kp)) (some en) [.Assign [.Name er vq] (.Name en vo) bG] qk]) Q E s3) E s2) E s:=by
 refine Bw I hp bY hf hex fl λs2 I2 fl2=>?_
 refine wpAny_handleBy_cons (codeAny_handlers_test ?_) (by intro q;cases q)
 refine fB (X:=Cx.marked X (.ref x) E) (Inv.marked I2 _ _) hg hm ?_ jt;obtain⟨bm,N,nm,qn,bs,hdct,sn,sub,ab,col,dd,k0,k1,k2,k3,k5,mN,hC,_,_,TC⟩:=sU I2.nB qC;obtain⟨bm',N',nm',Vi,bs',XF,sn',sub',ab',col',dd',k0',k1',k2',k3',k5',mN',hD,_,_,TD⟩:=sU I2.nB qD;obtain⟨⟨oe,vs,he,hc,_⟩,_⟩:=id fl2;have hup:(Value.ref C::bm).contains (.ref D)=true:=by
  unfold vn at up;split at up
  . rename_i cd _ ho;have:=(I2.nB _ _ ho).symm.trans hC;cases this;exact up
  . cases up
 obtain⟨hh,gg,dr,tt,oo⟩:=s2;refine jh hC hD he hc (TD.hasType ⋯) hup ?_;refine codeAny_handlers_suite_as ?_;refine vj I2 hp fl2 λs3 I3 fl3=>?_
 have I4:=Inv.RM I3 hp fl3;refine nW I4 hN ZR (.inl len) (v:=.ref x) rfl (λs5 I5=>?_) (.inr len)
 have hl:ie<σ.length:=by rw[I.len];exact (b0.mp ZR).1
 refine l5 (((yQ (nY (X:=Cx.marked X (.ref x) (λ_ _=>False)) hN hir ler (bM ZR (.inl len) den cen) hsw fer)) [] s5 _ _ { nx:=λσ' H'=>σ'=(σ.set ie (some (.ref x))).set ir (some (.ref x))/\H'=upd H x (xq C x),rt:=λ_ _=>False} (Inv.marked I5 _ _) ⟨.ref x,fI hl,rfl,rfl⟩)) (λf s6 q=>?_) λ_ _ z=>False.elim z
 cases f with
 |next=>
  obtain⟨σ',H',I6,rfl,rfl⟩:=q;have I7:=Inv.unmarked I.ok I6;obtain⟨m,hn,hlk⟩:=id I7.loc;refine wpAny_nameGoes_keeps (m:=m) len hn (by rw[I.ok.kind];rfl) λh' w hn' hs=>?_
  exact h _ (Inv.gone I7 hp hN ZR hlk hn' hs)
 |ret v=>obtain⟨_,_,_,_,_,q⟩:=q;exact q.elim
 |brk=>obtain⟨_,_,_,q⟩:=q;exact q.elim
 |cont=>obtain⟨_,_,_,q⟩:=q;exact q.elim
end
noncomputable abbrev zN(z:Z)(M:List Addr)(H:Hp):Z:=⟨z.K,H,M,[],z.T⟩
def noOwn:Slot->Slot
 |.own _=>.no
 |s=>s
section
variable{g g':G}
theorem Slots.noOwn{K:Frag}(q:Slots K M H g σ As):Slots K M H (g.map Ev.noOwn) σ []:=by
 induction q with
 |nil=>exact .nil
 |no _ ih=>exact .no ih
 |dat r _ ih=>exact .dat r ih
 |own _ _ _ ih=>exact .no ih
theorem Slots.XH{K:Frag}(σ:Sg):Slots K M H (List.replicate σ.length .no) σ []:=by
 induction σ with
 |nil=>exact .nil
 |cons v σ ih=>exact .no ih
theorem Cg{i:Nat}{l:List D}(h:(g.map Ev.noOwn)[i]?=some (.own l)):False:=by
 rw[oP]at h;cases e:g[i]? with
 |none=>rw[e]at h;cases h
 |some u=>rw[e]at h;cases u <;> cases h
theorem S.into(s:S z g σ As M H)(sl:Slots z.K M H gn σn [])(hn:∀(i:Nat) (l:List D),gn[i]?≠some (.own l)):S (zN z M H) gn σn [] M H where
 sl:=sl
 nd:=qS
 sub:=λa h=>nomatch h
 own:=λi a l e _=>absurd e (hn i l)
 live:=s.live
 keep:=λb o e _ _=>e
 iu:=λ_ h=>h
 m0:=λm hm=>by
  rcases s.live m hm with ⟨xs,e⟩ |e
  . intro q;rw[show H m=none from q]at e;cases e
  . obtain⟨q,hq,rfl⟩:=i7.mp e;obtain⟨ps,h1,_⟩:=s.tab q hq;intro z;rw[show H q.1=none from z]at h1;cases h1
 bm:=λb h=>nomatch h
 iT:=λp h=>nomatch h
 tab:=s.tab
 tm:=λp h=>s.iu _ (s.tm p h)
 tt:=s.tt
theorem S.after(s:S z g σ As M H)(hA:As=[])(s1:S (zN z M H) g' σ0 aO M1 H1)(st:aq M H M1 H1):S z g σ As M1 H1 where
 sl:=s.sl.stay st (λa h=>by rw[hA]at h;cases h)
 nd:=s.nd
 sub:=λa h=>by rw[hA]at h;cases h
 own:=s.own
 live:=s1.live
 keep:=λb o e hb ht=>s1.keep b o (s.keep b o e hb ht) (λh=>nomatch h) ht
 iu:=λm hm=>s1.iu m (s.iu m hm)
 m0:=s.m0
 bm:=s.bm
 iT:=s.iT
 tab:=s1.tab
 tm:=s.tm
 tt:=s.tt
theorem Slots.gJ{K:Frag}{i:Nat}{v:Option V}(q:Slots K M H g σ As)(e:g[i]?=some .no):Slots K M H g (σ.set i v) As:=by
 induction q generalizing i with
 |nil=>exact .nil
 |no q ih=>cases i with
  |zero=>exact .no q
  |succ i=>exact .no (ih e)
 |dat r q ih=>cases i with
  |zero=>cases e
  |succ i=>exact .dat r (ih e)
 |own a b q ih=>cases i with
  |zero=>cases e
  |succ i=>exact .own a b (ih e)
theorem S.gJ(s:S z g σ As M H)(e:g[i]?=some .no):S z g (σ.set i v) As M H where
 sl:=s.sl.gJ e
 nd:=s.nd
 sub:=s.sub
 own:=λj a l e1 e2=>s.own j a l e1 (by
  rw[eM (λq=>by rw[<- q,e]at e1;cases e1)]at e2;exact e2)
 live:=s.live
 keep:=s.keep
 iu:=s.iu
 m0:=s.m0
 bm:=s.bm
 iT:=λp hp=>by
  obtain⟨h1,l,h2⟩:=s.iT p hp;exact⟨by rw[eM (λq=>by rw[<- q,e]at h2;cases h2)];exact h1,l,h2⟩
 tab:=s.tab
 tm:=s.tm
 tt:=s.tt
end
theorem zF(I:L2.Inv X ah σ H s)(B:aM X.env.scope scope)(nl:∀y∈scope.names,y.2≠.local)
  (Cd:∀x c,cl.lookup x=some c->X.env.cells.lookup x=some c/\(x,NameKind.free)∈scope.names) (Le:∀y∈scope.names,y.2=.free->∃c,cl.lookup y.1=some c):lH X.N σ scope cl H s.heap where
 inj:=λx y c h1 h2=>I.ok.inj x y c (Cd x c h1).1 (Cd y c h2).1
 has:=λx h=>by
  rcases h with h |h
  . exact absurd rfl (B.sL _ (L2.mem_of_lookup h))
  . exact Le _ (L2.mem_of_lookup h) rfl
 cell:=λx c h=>⟨I.dP x c (Cd x c h).1,I.cell x c (Cd x c h).1⟩
 loc:=λi x v h1 h2 h3=>by
  have hf:scope.names.lookup x=some .free:=by
   rcases h3 with h3 |h3 |h3
   . exact absurd rfl (nl _ (L2.mem_of_lookup h3))
   . exact absurd rfl (B.sL _ (L2.mem_of_lookup h3))
   . exact h3
  have hv:=B.free _ (L2.mem_of_lookup hf) rfl;obtain⟨m,_,hlk⟩:=I.loc;obtain⟨u,r,q⟩:=hlk i x v h1 h2 (.inr hv);obtain⟨c2,e2⟩:=Le _ (L2.mem_of_lookup hf) rfl;rcases q with ⟨k,_⟩ |⟨_,c,e,z⟩
  . have k:X.env.scope.names.lookup x=some .local:=k;rcases hv with hv |hv <;> (have hv:X.env.scope.names.lookup x=_:=hv;rw[k]at hv;cases hv)
  . have:=(Cd _ _ e2).1;have this:X.env.cells.lookup x=some c2:=this;rw[e]at this;cases this;exact⟨hf,u,c2,r,e2,z⟩
 len:=I.len
theorem lH.un(c:lH N σ scope cl H h)(u:Un fs [] H H' h h'):lH N σ scope cl H' h':=by
 have key:∀x a v,cl.lookup x=some a->h.IsCell a v->h'.IsCell a v:=λx a v e ⟨o,e1,d⟩=>by
  obtain⟨sl,e2⟩:=u.any e1 (c.cell x a e).1 ⋯;exact⟨_,e2,d⟩
 refine⟨c.inj,c.has,λx a e=>?_,λi x v h1 h2 h3=>?_,c.len⟩
 . obtain⟨hn,v,o,e1,d⟩:=c.cell x a e;exact⟨u.free a o e1 hn ⋯,v,key x a v e ⟨o,e1,d⟩⟩
 . obtain⟨f,w,a,r,e,z⟩:=c.loc i x v h1 h2 h3;exact⟨f,w,a,r,e,key x a _ e z⟩
section
variable{C D p c':Addr}
 {N:List Str}{qn:Str}{scope:Scope}{cl:List (Str×Addr)}{body:Expr}{params:Arguments}{pm gX:Value}{g0 Gu:G}
noncomputable abbrev Gv (y ke en er:Str) (py aR qj kp vq vo bG qk iO:Pos):Stmt:=.Try [.Expr (.Call (.Name y py) [] [] aR) qj] [.ExceptHandler (some (.Name ke kp)) (some en) [.Assign [.Name er vq] (.Name en vo) bG] qk] [] [] iO
structure Ob(X:Cx)(C D:Addr)(y ke en er:Str)(iy ie ir:Nat):Prop where
 pn:X.pn=[]
 st:X.stack=X.env::X.outer
 fr:X.env.frame=some X.env.locals
 ex:X.ex=[]
 calm:X.calm=true
 nd:X.N.Nodup
 gk:Gl X ke
 mg:X.mg ke=some (.ref D)
 dk:(ke==("__debug__":Str))=false
 qC:fM X.K C
 qD:fM X.K D
 up:vn X.K C D=true
 kC:Jl X.K C
 ie:X.N[ie]?=some en
 le:X.env.scope.names.lookup en=some .local
 de:(en==("__debug__":Str))=false
 ce:(en==("__classdict__":Str))=false
 ir:X.N[ir]?=some er
 lr:Loc X.env.scope er
 fn:X.fn er=true\/X.env.scope.names.lookup er=some .local
 iy:X.N[iy]?=some y
 vy:gR X.env.scope y
 dy:(y==("__debug__":Str))=false
 cy:(y==("__classdict__":Str))=false
 room:X.A.depth<recursionLimit
structure eu(params:Arguments)(scope:Scope):Prop where
 co:scope.isCoroutine=false
 gen:scope.isGenerator=false
 kind:scope.kind=.function
 nc:∀x∈scope.names,x.2≠.cell
 nl:∀x∈scope.names,x.2≠.local
 par:params=⟨[],[],none,[],[],none,[]⟩
theorem eu.bind(h:eu params scope):bindArgs (PySem.W.kla_fn "<lambda>" qn params body scope cl pm (.ref c') gX) ⟨[],[]⟩=pure []:=by rw[h.par];rfl
theorem RN{ah:List (Addr×Obj)}{i:Nat}{x:Str}{v:V}{pos:Pos}{E:Value->Shared->Prop}{Q:Value->Shared->Prop}(I:L2.Inv X ah σ H s)(hN:X.N[i]?=some x)(hv:gR X.env.scope x)(hd:(x==("__debug__":Str))=false)(bE:(x==("__classdict__":Str))=false)(e:σ[i]?=some (some v))(h:∀u,RelV v u->Q u s) :
  wpAny (model X.prog X.w) X.A (eval (.Name x pos) X.env) Q E s:=by
 obtain⟨m,hn,hl⟩:=I.loc;obtain⟨u,r,l⟩:=hl i x v hN e hv;have fin:Q u s:=h u r;rcases l with ⟨hk,hm⟩ |⟨hk,c,hc,hcell⟩
 . exact CL (wpAny_loadName_local I.ok.kind hk hn hm fin) hd
 .
  rcases hk with hk |hk
  . exact CL (wpAny_loadName_cell I.ok.kind hk hc hcell fin) hd
  . exact CL (wpAny_loadName_free I.ok.kind hk hc hcell fin bE) hd
theorem Lh(T:Ob X C D y ke en er iy ie ir)(L:eu params scope)(I:L2.Inv X [] σ H s)(hS:S zf gf σ [] M H)(hK:zf.K=X.K)(hsw:swapsWith (.Name en vo) (some (.Name er vq)) bG.line X.env=pure false)(hsx:swapsWith (.Call (.Name y py) [] [] aR) none qj.line X.env=pure false)
  (hy:σ[iy]?=some (some (.ref p))) (fz:gf[ie]?=some .no) (hbr:ir∉zf.bor) (hnr:ie≠ir)
  (hp:H p=some (lG p (PySem.W.kla_obj "<lambda>" qn params body scope cl pm c' gX))) (hc':H c'=some (gS qn c')) (Cl:lH N σ0 scope cl H s.heap) (hs0:Slots zf.K M H g0 σ0 []) (hn0:∀(i:Nat) (l:List Ev.D),g0[i]?≠some (.own l))
  (hb:∀xe,PassesOwn (model X.prog X.w) (X.A.deeper (PySem.W.envX qn scope s⁻¹ p (.ref c') cl)) (PySem.W.envX qn scope s⁻¹ p (.ref c') cl) xe->FG (vh X N qn scope p (.ref c') cl s H xe) (zN zf M H) body g0 C Gu)
  (h:∀s' σ' H' M' aC,L2.Inv X [] σ' H' s'->S zf (gf.set ir (.dat (.mz C))) σ' aC M' H'->aq M H M' H'->Q .next s') :
  wpAny (model X.prog X.w) X.A (exec (Gv y ke en er py aR qj kp vq vo bG qk iO) X.env) Q X.xe s:=by
 refine wpAny_Try_except (AY (l5 (wpAny_Expr_any (Q:=λ_ _=>False) ?_ I.quiet hsx) (λ_ _ z=>False.elim z) λ_ _ z=>z))
 have hpo:s.heap.get? p=some (PySem.W.kla_obj "<lambda>" qn params body scope cl pm c' gX):=(I.hok p _ hp).1;have Xx:s.heap.CodeRec (.ref c') qn:=(I.hok c' _ hc').1;refine tJ (RN I T.iy T.vy T.dy T.cy hy λu r=>?_)
 cases r;refine PySem.W.callWith_F0 ⟨_,_,_,_,hpo⟩ (CM (A7 (Gs (R:=λr s'=>∃x H1 aO M1,r=.error (.ref x)/\Ds X.prog X.w X.stack H s (λc o h=>c=.ref C/\o=none/\h=H1) (.ref x) s'/\S (zN zf M H) Gu σ0 aO M1 H1/\aq M H M1 H1) I T.calm T.room hpo Xx L.bind L.co L.gen L.kind L.nc Cl (S.into hS hs0 hn0) hb
  λx H1 aO M1 s'' cx S1 st=>⟨x,H1,aO,M1,rfl,cx,S1,st⟩) λr s1 ⟨x,H1,aO,M1,e,cx,S1,st⟩=>?_))
 subst e;obtain⟨x',C',H',e,I1,fl,e1,_,e3⟩:=Fy T.ex I cx;cases e;cases e1;subst e3;refine Ce I1 T.pn T.st T.fr T.ex fl T.nd T.gk T.mg T.dk T.qC T.qD T.up T.ie T.le T.de T.ce T.ir T.lr T.fn hsw λs' I'=>?_
 have s2:=S.after hS rfl S1 st;have s3:=s2.laid (o:=xq C x) fl.no;have s4:S zf gf (σ.set ie (some (.ref x))) [] M1 (upd H' x (xq C x)):=s3.gJ fz;obtain⟨zo,s5⟩:=s4.jx (i:=ir) (d:=.mz C) (v:=.ref x) hbr (hK▸.mz T.kC (s2.fresh fl.no) aA);have s6:S zf (gf.set ir (.dat (.mz C))) (((σ.set ie (some (.ref x))).set ir (some (.ref x))).set ie none) zo M1 (upd H' x (xq C x)):=s5.gJ (by rw[eM (mP hnr)];exact fz)
 exact h s' _ _ M1 zo I' s6 (st.trans (aq.laid fl.no))
end
end Ev
namespace L2
theorem XJ{CX:Al}{P:Program}{w:World}{K:Frag}{mg:Str->Option Value}{base:Heap}{k:Nat}{f:Addr}{name qual:Str}{params:Arguments}{body:List Stmt}{scope:Scope}{dV kV doc pm bD ct oc:Value}{an od:Option Addr}
  {osl:Array (Option Value)}{N ps:List Str}{A:Around}{outer:List Env}{s:Shared}{H:Hp}{args:Args}{us:List Value}{vs:List V}{Q:VK}{E:XK} (lk:K.lookup f=some ⟨oc,od,.func (PySem.W.fnOf name qual params body scope dV kV doc pm an bD ct),osl⟩) (bE:PySem.W.codeIn K bD qual=true) (S:bS N ps scope)
  (hr:cD (k+1) A) (e0:Eb P w K mg base A outer s H) (hb:BindsTo s (PySem.W.fnOf name qual params body scope dV kV doc pm an bD ct) args (ps.zip us)) (r:Vals vs us) (hl:vs.length=ps.length)
  (hbody:∀s1,Inv (fL CX P w K mg base N qual scope f bD A outer s H E) [] (start N vs) H s1->wpAny (model P w) (A.deeper (envOfC qual scope s⁻¹ f bD)) (execs body (envOfC qual scope s⁻¹ f bD)) (SP (fL CX P w K mg base N qual scope f bD A outer s H E) [] { nx:=λ_ H'=>Q .non H',rt:=Q}) (fL CX P w K mg base N qual scope f bD A outer s H E).xe s1) :
  codeAny (model P w) A (.call (.ref f) args) (CR CX outer P w H s Q E) s:=by
 have KX:K.In s.heap:=e0.mod.Dn.keeps λb o e=>(e0.bs b o e).1
 have lim:s.heap.NoLimit:=e0.mod.nolimit.keeps λb o e=>(e0.bs b o e).1
 have hkind:∀y∈ps.zip us,scope.names.lookup y.1=some .local\/(scope.names.lookup y.1=some .cell/\((cellsFrom (s⁻¹+1) scope.names []).lookup y.1).isSome=true):=λ⟨n,v⟩ hy=>by
  rcases S.par n (Cf hy).1 with q |q
  . exact .inl q
  . exact .inr ⟨q,BO _ _ _ (.inl q)⟩
 refine codeAny_call_function hr.depth (KX _ _ lk) rfl S.co S.gen rfl (PySem.W.codeRec_of KX bE) (hb _ _ _ _ ?_);refine wpAny_newFunctionEnv_cells S.kind hkind λenv he s1 x=>?_
 subst he;refine⟨lim.keeps x.toInCall.keep,codeAny_func ?_⟩;have I:Inv (fL CX P w K mg base N qual scope f bD A outer s H E) [] (start N vs) H s1:=qZ S hr.hd e0 hl r x;refine l5 (hbody s1 I) (λfl s' hs=>?_) λe s' hs=>hs
 have fin:∀{σ':St}{H':Hp}{v:V}{u:Value},Inv (fL CX P w K mg base N qual scope f bD A outer s H E) [] σ' H' s'->RelV v u->Q v H'->CE outer P w H s Q u s':=
  λ{σ' H' v u} J rv q=>⟨v,H',J.os,J.bare,J.base,J.hok,rv,q⟩
 cases fl with
 |ret u=>obtain⟨v,σ',H',J,rv,q⟩:=hs;exact fin J rv q
 |next=>obtain⟨σ',H',J,q⟩:=hs;exact fin (v:=V.non) (u:=Value.none) J rfl q
 |brk=>obtain⟨_,_,_,q⟩:=hs;exact False.elim q
 |cont=>obtain⟨_,_,_,q⟩:=hs;exact False.elim q
end L2
namespace Ev
open L2
structure RP(K:Frag)(mg:Str->Option Value)(sc:Scope)(N:List Str)(C D:Addr)(y ke en er:Str)(ie ir:Nat):Prop where
 nd:N.Nodup
 gk:sc.names.lookup ke=some .globalImplicit
 mg:mg ke=some (.ref D)
 dk:(ke==("__debug__":Str))=false
 qC:fM K C
 qD:fM K D
 up:vn K C D=true
 kC:Jl K C
 eN:N[ie]?=some en
 le:sc.names.lookup en=some .local
 de:(en==("__debug__":Str))=false
 ce:(en==("__classdict__":Str))=false
 rN:N[ir]?=some er
 lr:Loc sc er
 yN:N[0]?=some y
 vy:gR sc y
 dy:(y==("__debug__":Str))=false
 cy:(y==("__classdict__":Str))=false
 ne:ie≠ir
 ie0:ie≠0
 ir0:ir≠0
theorem RP.try{P:Program}{w:World}{K:Frag}{mg:Str->Option Value}{base:Heap}{N:List Str}{qual:Str}{sc:Scope}{f:Addr}{cd:Value}{A:Around}{outer:List Env}{s:Shared}{H:Hp}{E:XK}{C D:Addr}{y ke en er:Str}{ie ir k:Nat}
  (T:RP K mg sc N C D y ke en er ie ir) (hr:cD k (A.deeper (envOfC qual sc s⁻¹ f cd))):Ob (fL uB P w K mg base N qual sc f cd A outer s H E) C D y ke en er 0 ie ir:=
 ⟨rfl,rfl,rfl,rfl,rfl,T.nd,T.gk,T.mg,T.dk,T.qC,T.qD,T.up,T.kC,T.eN,T.le,T.de,T.ce,T.rN,T.lr,.inl rfl,T.yN,T.vy,T.dy,T.cy,by have:=hr.dp;show (A.deeper (envOfC qual sc s⁻¹ f cd)).depth<_;lia⟩
structure pq(X:Cx)(qn:Str)(q c:Addr):Prop where
 hq:(q,qn)∈cE X.K
 hu:∀p∈cE X.K,p.1=q->p.2=qn
 hcode:X.env.code=.ref c
 hC:∀b:Heap,X.K.In b->PySem.W.CodeHd b c q
 hqn:X.env.qual ++ "<lambda>"=qn
 hbi:∀b:Heap,X.K.In b->b.BuiltinsAt X.mg q
 Xw:mainGlobals≠q
structure Lt where
 params:Arguments
 body:Expr
 scope:Scope
 pos:Pos
noncomputable abbrev Lt.ex(l:Lt):Expr:=.Lambda l.params l.body l.scope l.pos
def jm(X:Cx)(qn:Str)(M:List Addr)(H:Hp)(l:Lt)(v:V):Prop:=∃p c' gX cl,v=.ref p/\p∉M/\c'∉M/\H p=some (lG p (PySem.W.kla_obj "<lambda>" qn l.params l.body l.scope cl ((X.mg "__name__").getD .none) c' gX))/\H c'=some (gS qn c')/\
 (∀x c,cl.lookup x=some c->X.env.cells.lookup x=some c/\(x,NameKind.free)∈l.scope.names)/\∀y∈l.scope.names,y.2=.free->∃c,cl.lookup y.1=some c
theorem jm.stay(st:aq M H M' H')(h:jm X qn M H l v):jm X qn M' H' l v:=by obtain⟨p,c',gX,cl,e,n1,n2,h1,h2,h3⟩:=h;exact⟨p,c',gX,cl,e,(st _ _ h1 n1).2,(st _ _ h2 n2).2,(st _ _ h1 n1).1,(st _ _ h2 n2).1,h3⟩
inductive cQ(X:Cx)(qn:Str)(M:List Addr)(H:Hp):List Lt->List V->Prop
 |nil:cQ X qn M H [] []
 |cons {l:Lt}{ls:List Lt}{v:V}{vs:List V}:jm X qn M H l v->cQ X qn M H ls vs->cQ X qn M H (l::ls) (v::vs)
theorem cQ.stay(st:aq M H M' H')(h:cQ X qn M H l v):cQ X qn M' H' l v:=by
 induction h with
 |nil=>exact .nil
 |cons a _ ih=>exact .cons (a.stay st) ih
theorem cQ.push(h:cQ X qn M H l v)(e:jm X qn M H x y):cQ X qn M H (l++[x]) (v++[y]):=by
 induction h with
 |nil=>exact .cons e .nil
 |cons a _ ih=>exact .cons a ih
theorem cQ.get(h:cQ X qn M H l v):∀{i:Nat}{x:Lt},l[i]?=some x->∃y,v[i]?=some y/\jm X qn M H x y:=by
 induction h with
 |nil=>intro i x e;cases e
 |cons a _ ih=>intro i x e;cases i with
  |zero=>cases (show some _=some x from e);exact⟨_,rfl,a⟩
  |succ i=>exact ih (i:=i) e
theorem cQ.length(h:cQ X qn M H l v):l.length=v.length:=by
 induction h with
 |nil=>rfl
 |cons _ _ ih=>exact congrArg (· + 1) ih
section
theorem S.ext(s:S z g σ As M H)(h:H a=some (.ext f)):a∉M:=λhm=>by
 rcases s.live a hm with ⟨xs,e⟩ |e
 . rw[h]at e;cases e
 . obtain⟨q,hq,rfl⟩:=i7.mp e;obtain⟨ps,h1,_⟩:=s.tab q hq;rw[h]at h1;cases h1
theorem S.xN(s:S z g σ As M H)(hm:a∈M)(hA:a∉As)(h0:z.H0 a=none)(h:H a=some (.lst xs)):S z g σ As M (upd H a (.lst xs')) where
 sl:=s.sl.stay (aq.write hm) λb hb u e=>by rw[az (show b≠a from λq=>hA (by rw[<- q];exact hb))];exact e
 nd:=s.nd
 sub:=s.sub
 own:=s.own
 live:=λm hm=>by
  by_cases e:m=a
  . subst e;exact .inl ⟨_,aA⟩
  .
   rcases s.live m hm with ⟨ys,q⟩ |q
   . exact .inl ⟨ys,by rw[az e];exact q⟩
   . exact .inr q
 keep:=λb o e hb ht=>by rw[az (λq=>by rw[q,h0]at e;cases e)];exact s.keep b o e hb ht
 iu:=s.iu
 m0:=s.m0
 bm:=s.bm
 iT:=s.iT
 tab:=λp hp=>(s.tab p hp).keep λb o e n=>by rw[az (λq=>by rw[q,h]at e;cases e;exact n _ rfl)];exact e
 tm:=s.tm
 tt:=s.tt
noncomputable def tLam(X:Cx)(z:Z)(g:G)(qn:Str)(l:Lt):TE:=λσ H Q=>∃As M,S z g σ As M H/\∀v H',S z g σ As M H'->aq M H M H'->jm X qn M H' l v->(∀b xs,H b=some (.lst xs)->H' b=some (.lst xs))->Q v H'
theorem xO(hK:z.K=X.K)(mk:pq X qn q c)(B:aM X.env.scope l.scope)(L:eu l.params l.scope):PE X l.ex (tLam X z g qn l):=by intro ah s σ H Q I ⟨As,M,hs,hQ⟩;exact Gr I hs (by rw[hs.tt,hK];exact mk.hq) (by rw[hs.tt,hK];exact mk.hu) mk.hcode (mk.hC _ I.ok.mod.Dn) mk.hqn (mk.hbi _ I.ok.mod.Dn) mk.Xw (by rw[L.par];rfl) B λp c' gX cl H' s' I' S' st' np h1 h2 c1 c2 kl=>⟨.ref p,H',I',rfl,hQ _ H' S' st' ⟨p,c',gX,cl,rfl,np,S'.ext h2,h1,h2,c1,c2⟩ kl⟩
end
section
variable{st:Stmt}{rest:List Stmt}{f C D p c':Addr}
theorem RQ(hK:z.K=X.K)(hr:cD (k+2) X.A)(hcalm:X.calm=true)(Ff:Jk X.K fx qual st f fd)(bY:bA st=.Assign [.Name er Ci] (.Constant .none j np) Vj::Gv y ke en er py cpos0 qj kp vq vo bG qk iO::rest)(Sc:bS Nf [y] (aE st))
  (hbd:L2.Binds X.K fd [y] []) (T:RP X.K X.mg (aE st) Nf C D y ke en er ie ir) (L:eu params scope)
  (hbE:∀(Xf:Cx) (s:Shared) (H:Hp) (xe:Value->Shared->Prop) (zl:Z),Xf.prog=X.prog->Xf.w=X.w->Xf.K=X.K->Xf.mg=X.mg->Xf.base=X.base->cD (k+1) Xf.A->Xf.calm=true->PassesOwn (model Xf.prog Xf.w) (Xf.A.deeper (PySem.W.envX qn scope s⁻¹ p (.ref c') cl)) (PySem.W.envX qn scope s⁻¹ p (.ref c') cl) xe->zl.K=X.K->zl.bor=[]->FG (vh Xf N qn scope p (.ref c') cl s H xe) zl body g0 C Gu)
  (hrest:∀(bD:Value) (A:Around) (outer:List Env) (s:Shared) (H:Hp) (E:XK),PySem.W.codeIn X.K bD qual=true->cD k (A.deeper (envOfC qual (aE st) s⁻¹ f bD))->∀zf:Z,zf.K=X.K->zf.bor=[]->dY (fL uB X.prog X.w X.K X.mg X.base Nf qual (aE st) f bD A outer s H E).mh zf rest ((List.replicate Nf.length .no).set ir (.dat (.mz C))) (.rt r) g3)
  (ho:dj [] g3 r=some r') (I1:L2.Inv X ah σ H s) (S1:S z g σ As M H) (hp1:H p=some (lG p (PySem.W.kla_obj "<lambda>" qn params body scope cl pm c' gX))) (hc1:H c'=some (gS qn c')) (Cl0:lH N σ0 scope cl H s.heap) (hs0:Slots z.K M H g0 σ0 []) (hn0:∀(i:Nat) (l:List Ev.D),g0[i]?≠some (.own l))
  {us:List Value} (rv:Vals [.ref p] us) {E:Value->Shared->Prop}{Q:Value->Shared->Prop} (hQ:∀u v H' s' aC M',L2.Inv X ah σ H' s'->RelV v u->S z g σ aC M' H'->aq M H M' H'->cN z g σ aC M' H' r' v->Q u s'):wpAny (model X.prog X.w) X.A (call (.ref f) us) Q E s:=by
 obtain⟨oc,od,kV,doc,pm,an,bD,ct,osl,rfl,lk,bE⟩:=Ff.ex;have aL:us.length=1:=by rw[<- rv.length];rfl
 refine CM (A7 (XJ (CX:=uB) (k:=k+1) (N:=Nf) (Q:=λv H'=>∃aC M',S z g σ aC M' H'/\aq M H M' H'/\cN z g σ aC M' H' r' v) (E:=λ_ _ _=>False) lk bE Sc hr I1.JG (by have:=hbd s us I1.nB (by rw[mB];exact aL);rw[mB]at this;exact this) rv rfl λs2 J=>?_) λrr s' hq'=>?_)
 ·
  rw[bY];have hr1:cD (k+1) (X.A.deeper (envOfC qual (aE st) s⁻¹ f bD)):=hr.deeper _;have hr2:cD k (X.A.deeper (envOfC qual (aE st) s⁻¹ f bD)):=hr1.mono (AQ k);have TT:=T.try (P:=X.prog) (w:=X.w) (base:=X.base) (qual:=qual) (f:=f) (cd:=bD) (A:=X.A) (outer:=X.stack) (s:=s) (H:=H) (E:=λ_ _ _=>False) hr2
  have hNl:0<Nf.length:=(b0.mp T.yN).1;refine AY (l5 ((nY (X:=(fL uB X.prog X.w X.K X.mg X.base Nf qual (aE st) f bD X.A X.stack s H (λ_ _ _=>False)).wish λ_ _=>False) T.nd T.rN T.lr DP rfl (.inl rfl)) [] s2 _ _ { nx:=λσ' H'=>σ'=(start Nf [.ref p]).set ir (some .non)/\H'=H,rt:=λ_ _=>False} (J.wish _) ⟨rfl,rfl⟩) (λfl s3 q3=>?_) λ_ _ z=>False.elim z)
  cases fl with
  |ret u=>obtain⟨_,_,_,_,_,q⟩:=q3;exact q.elim
  |brk=>obtain⟨_,_,_,q⟩:=q3;exact q.elim
  |cont=>obtain⟨_,_,_,q⟩:=q3;exact q.elim
  |next=>
   obtain⟨σ3,H3,I3,e1,e2⟩:=q3;subst e1 e2;have I3:=I3.cM;have len0:(start Nf [.ref p]).length=Nf.length:=by have:=J.len;exact this
   have XM:Slots z.K M H3 (List.replicate Nf.length .no) (start Nf [.ref p]) []:=by rw[<- len0];exact Slots.XH _
   have XQ:∀(i:Nat) (l:List Ev.D),(List.replicate Nf.length Slot.no)[i]?≠some (.own l):=λi l e=>by
    have:=kS e;rw[vS]at this;cases this.2
   have S3:S (zN z M H3) (List.replicate Nf.length .no) (start Nf [.ref p]) [] M H3:=S.into S1 XM XQ;obtain⟨jd,S4⟩:=S3.jx (i:=ir) (d:=.non) (v:=.non) (λh=>nomatch h) .non
   have hA4:jd=[]:=by
    have key:∀{g:G}{σ:Sg}{As:List Addr},Slots z.K M H3 g σ As->(∀(i:Nat) (l:List Ev.D),g[i]?≠some (.own l))->As=[]:=λq=>by
     induction q with
     |nil=>intro _;rfl
     |no _ ih=>intro h;exact ih λi l e=>h (i+1) l e
     |dat _ _ ih=>intro h;exact ih λi l e=>h (i+1) l e
     |own _ _ _ ih=>intro h;exact absurd rfl (h 0 _)
    refine key S4.sl λi l e=>?_
    by_cases hi:i=ir
    .
     subst hi;rw[fI (by rw[gL];exact (b0.mp T.rN).1)]at e
     cases e
    . rw[eM (mP hi)]at e;exact XQ i l e
   subst hA4;have hy:((start Nf [.ref p]).set ir (some .non))[0]?=some (some (.ref p)):=by rw[eM T.ir0];rfl
   have fz:((List.replicate Nf.length Slot.no).set ir (.dat .non))[ie]?=some .no:=by rw[eM (mP T.ne),AI,fN (b0.mp T.eN).1]
   have un3:Un (frs X.stack) [] H3 H3 s.heap s3.heap:=I3.base;have Vk:(zN z M H3).K=(fL uB X.prog X.w X.K X.mg X.base Nf qual (aE st) f bD X.A X.stack s H3 (λ_ _ _=>False)).K:=hK
   refine AY (Lh (zf:=zN z M H3) (g0:=g0) (σ0:=σ0) (N:=N) TT L I3 S4 Vk rfl rfl hy fz (λh=>nomatch h) T.ne hp1 hc1 (Cl0.un un3) hs0 hn0
    (λxe hx=>hbE _ s3 H3 xe _ rfl rfl rfl rfl rfl hr1 rfl hx hK rfl) λs4 σ4 H4 M4 jd I4 S5 jU=>?_)
   obtain⟨t,pt,kt⟩:=hrest bD X.A X.stack s H3 (λ_ _ _=>False) bE hr2 (zN z M H3) hK rfl
   rw[List.set_set]at S5;refine pt.mh [] s4 σ4 H4 _ I4 (kt σ4 jd M4 H4 _ S5 λv σ5 zo M5 H5 S6 Rl R6=>?_)
   obtain⟨M6,S7,Xc,R7⟩:=S1.leave (rs:=[]) (vs:=[]) (gs:=[]) (gO:=g) .nil rfl qS S6 (jU.trans Rl) R6 rfl ho;exact⟨_,M6,S7,Xc,R7⟩
 .
  cases rr with
  |error ev=>exact False.elim hq'
  |ok flw=>
   cases flw with
   |ret u=>
    obtain⟨v,H',I',r1,aC,M',a,b,d⟩:=I1.after (Q:=λv H'=>∃aC M',S z g σ aC M' H'/\aq M H M' H'/\cN z g σ aC M' H' r' v) hq'
    exact hQ u v H' s' aC M' I' r1 a b d
   |next=>exact False.elim hq'
   |brk=>exact False.elim hq'
   |cont=>exact False.elim hq'
end
def xP(Y X:Cx)(z:Z)(g:G)(qn:Str)(l:Lt)(r':R)(f:Addr):Prop:=
 ∀{ah:List (Addr×Obj)}{σ1 σ0:Sg}{H1:Hp}{s1:Shared}{g1:G}{As A0 M:List Addr}{p c':Addr}{cl:List (Str×Addr)}{pm gX:Value}{us:List Value}{Q E:Value->Shared->Prop},L2.Inv Y ah σ1 H1 s1->S z g1 σ1 As M H1->H1 p=some (lG p (PySem.W.kla_obj "<lambda>" qn l.params l.body l.scope cl pm c' gX))->H1 c'=some (gS qn c')->
  lH X.N σ0 l.scope cl H1 s1.heap->Slots z.K M H1 g σ0 A0->Vals [.ref p] us->(∀u v H' s' aC M',L2.Inv Y ah σ1 H' s'->RelV v u->S z g1 σ1 aC M' H'->aq M H1 M' H'->cN z g1 σ1 aC M' H' r' v->Q u s')->wpAny (model Y.prog Y.w) Y.A (call (.ref f) us) Q E s1
section
variable{st:Stmt}
theorem Li(hK:z.K=X.K)(Ff:Jk X.K fx qual st f fd)(hg:Gl X fx)(hm:X.mg fx=some (.ref f))(jt:(fx==("__debug__":Str))=false)(mk:pq X qn q c)(B:aM X.env.scope l.scope)(L:eu l.params l.scope)(hcall:xP X X z g qn l r' f):aD X z (.Call (.Name fx fp) [l.ex] [] aR) g r' g:=by
 refine⟨λσ H Q=>∃As M,S z g σ As M H/\∀v H' aC M',S z g σ aC M' H'->aq M H M' H'->cN z g σ aC M' H' r' v->Q v H',λah s σ H Q I ⟨As,M,hs,hQ⟩=>?_,λσ As M H Q s kq=>⟨As,M,s,λv H' aC M'=>kq v H' aC M'⟩⟩
 refine tJ (fB I hg hm ?_ jt);refine AM (h₀:=X.base) I.ok.mod.Dn Ff.kp (l5 ((bC (xO (z:=z) (g:=g) hK mk B L) dW rfl) aR ah s σ H (λvs H'=>∃v,vs=[v]/\S z g σ As M H'/\aq M H M H'/\jm X qn M H' l v) I ⟨As,M,hs,λv H' a b d _=>⟨v,rfl,a,b,d⟩⟩) (λus s1 q1=>?_) λ_ _ z=>z) rfl rfl
 obtain⟨vs,H1,I1,rv,_,rfl,S1,cI,p,c',gX,cl,rfl,np1,nc1,hp1,hc1,Cd,Le⟩:=q1;exact⟨I1.nB,hcall I1 S1 hp1 hc1 (zF I1 B L.nl Cd Le) S1.sl rv λu v H' s' aC M' I' r1 a b d=>⟨v,H',I',r1,hQ v H' aC M' a (cI.trans b) d⟩⟩
end
section
theorem Gw(hw:∀u,RelV w u->u=cv):fC X (.builtin "isinstance") (λxs H Q=>∃x M d b,xs=[x,w]/\Pk X.K M H d x/\PySem.W.kitOne X.K (Dp d) cv=some b/\Q (.bl b) H):=by intro ah s σ H xs us Q I r h;obtain⟨x,M,d,b,rfl,p,e,q⟩:=h;obtain⟨u,w',rfl,r1,r2⟩:=vals2 r;obtain rfl:=hw _ r2;exact Ey I p r1 e λtk=>⟨.bl b,H,I.tok tk,rfl,q⟩
theorem Gx(hK:z.K=X.K)(h:aD X z a g r1 g1)(hp:pk r1 g1=some d)(he:∀M H v,Pk X.K M H d v->PySem.W.kitOne X.K (Dp d) cv=some b)
  (hg:Gl X "isinstance") (hm:X.mg "isinstance"=none) (hv:bootBuiltins "isinstance"=some (.builtin "isinstance")) (hw:∀u,RelV w u->u=cv) (pT':PE X (.Name T pT) (tC w))
  (hs:starEach [a,.Name T pT] X.env=(false,eval a X.env)::starEach [.Name T pT] X.env):aD X z (.Call (.Name "isinstance" p) [a,.Name T pT] [] pos) g (.dat (.bl b)) g1:=by
 obtain⟨t,q,k⟩:=h;refine⟨_,jV (Gw hw) hg hm hv (bC q (bC pT' dW) hs) ⋯ ⋯ hs,λσ As M H Q s kk=>k σ As M H _ s λv H' aC M' s' st R=>?_⟩
 have p:=hK▸s'.pk (aq.refl _ _) R hp;exact⟨v,M',d,b,rfl,p,he _ _ _ p,kk _ H' aC M' s' st (.bl b)⟩
end
open L2 PySem.W
noncomputable def jv:Slot->Slot
 |.own l=>.dat (.lst l)
 |s=>s
noncomputable def flat:D->Bool
 |.non=>true
 |.bl _=>true
 |.int _=>true
 |.str _=>true
 |_=>false
theorem Rep.flat{K:Frag}{M M':List Addr}{H H':Hp}{d:D}{v:V}(r:Rep K M H d v)(h:Ev.flat d=true):Rep K M' H' d v:=by
 cases r with
 |non=>exact .non
 |bl b=>exact .bl b
 |int i=>exact .int i
 |str x=>exact .str x
 |_=>cases h
section
variable{g g':G}
theorem Slots.atA{K:Frag}(q:Slots K M H g σ As){a:Addr}(h:a∈As):∃(i:Nat) (l:List D) (xs:List V),g[i]?=some (Slot.own l)/\σ[i]?=some (some (V.ref a))/\H a=some (.lst xs):=by
 induction q with
 |nil=>cases h
 |no _ ih=>obtain⟨i,l,xs,h1,h2,h3⟩:=ih h;exact⟨i+1,l,xs,h1,h2,h3⟩
 |dat _ _ ih=>obtain⟨i,l,xs,h1,h2,h3⟩:=ih h;exact⟨i+1,l,xs,h1,h2,h3⟩
 |own e _ _ ih=>
  rcases d6.mp h with rfl |h
  . exact⟨0,_,_,rfl,rfl,e⟩
  . obtain⟨i,l,xs,h1,h2,h3⟩:=ih h;exact⟨i+1,l,xs,h1,h2,h3⟩
theorem Slots.jv{K:Frag}{M0:List Addr}(q:Slots K M H g σ As)(hl:∀m∈M0,m∈M)(hn:∀a∈As,a∉M0):Slots K M0 H (g.map Ev.jv) σ []:=by
 induction q with
 |nil=>exact .nil
 |no _ ih=>exact .no (ih hn)
 |dat r _ ih=>exact .dat (r.stay (aq.less hl)) (ih hn)
 |own e r _ ih=>exact .dat (.lst ⟨hn _ dA,e⟩ (r.stay (aq.less hl))) (ih λa ha=>hn a (a9 _ ha))
theorem Lj{i:Nat}{l:List D}(h:(g.map Ev.jv)[i]?=some (.own l)):False:=by
 rw[oP]at h;cases e:g[i]? with
 |none=>rw[e]at h;cases h
 |some u=>rw[e]at h;cases u <;> cases h
theorem S.h0(s:S z g σ As M H)(hb:z.bor=[])(h:a∈As):z.H0 a=none:=by
 obtain⟨i,l,xs,h1,h2,_⟩:=s.sl.atA h;rcases s.own i a l h1 h2 with ⟨q,_⟩ |q
 . rw[hb]at q;cases q
 . exact q
theorem S.RT(s:S z g σ As M H)(hb:z.bor=[]):S z (g.map Ev.jv) σ [] (M.filter λm=>decide (m∉As)) H where
 sl:=s.sl.jv (λm hm=>(i8.mp hm).1) λa ha hm=>by have:=(i8.mp hm).2;simp at this;exact this ha
 nd:=qS
 sub:=λa h=>nomatch h
 own:=λi a l e _=>(Lj e).elim
 live:=λm hm=>s.live m (i8.mp hm).1
 keep:=s.keep
 iu:=λm hm=>i8.mpr ⟨s.iu m hm,by
  have:m∉As:=λh=>s.m0 m hm (s.h0 hb h)
  simpa using this⟩
 m0:=s.m0
 bm:=s.bm
 iT:=λp hp=>by
  have:p.1∈z.bor:=sB (f:=(·.1)) hp;rw[hb]at this;cases this
 tab:=s.tab
 tm:=s.tm
 tt:=s.tt
theorem S.thaw(s:S z g σ As M H)(hb:z.bor=[]){g1:G}{σ1:Sg}(s1:S z g1 σ1 aO M1 H1)(st:aq (M.filter λm=>decide (m∉As)) H M1 H1):S z g σ As (As++M1) H1/\aq M H (As++M1) H1:=by
 have nA:∀a∈As,a∉M.filter λm=>decide (m∉As):=λa ha hm=>by have:=(i8.mp hm).2;simp at this;exact this ha
 have stM:aq M H (As++M1) H1:=λb o e hb'=>by
  have h1:=st b o e λhm=>hb' (i8.mp hm).1
  refine⟨h1.1,λhm=>?_⟩
  rcases AB.mp hm with hm |hm
  . exact hb' (s.sub b hm)
  . exact h1.2 hm
 have lists:∀a∈As,∃xs,H1 a=some (.lst xs):=λa ha=>by
  obtain⟨_,_,xs,_,_,e⟩:=s.sl.atA ha;exact⟨xs,(st a _ e (nA a ha)).1⟩
 refine⟨⟨s.sl.stay stM λa ha o e=>(st a o e (nA a ha)).1,s.nd,λa ha=>AA _ ha,s.own,λm hm=>?_,s1.keep,λm hm=>i6 _ (s1.iu m hm),s.m0,s.bm,s.iT,s1.tab,s.tm,s.tt⟩,stM⟩
 rcases AB.mp hm with hm |hm
 . exact .inl (lists m hm)
 . exact s1.live m hm
theorem Lk(hb:z.bor=[])(hf:Ev.flat d=true)(h:aD X z e (g.map Ev.jv) (.dat d) g1):aD X z e g (.dat d) g:=by
 obtain⟨t,q,k⟩:=h;refine⟨t,q,λσ As M H Q s kk=>k σ [] _ H Q (s.RT hb) λv H1 aO M1 s1 st R=>?_⟩
 obtain⟨a,b⟩:=s.thaw hb s1 st;exact kk v H1 As _ a b (Rep.flat R hf)
end
def LL(X:Cx)(z:Z)(g:G)(qn:Str)(ic:Nat)(M0:List Addr)(H0:Hp)(ls:List Lt)(σ:Sg)(H:Hp):Prop:=
 ∃As M a vs,S z g σ As M H/\aq M0 H0 M H/\σ[ic]?=some (some (.ref a))/\a∈M/\a∉As/\z.H0 a=none/\H a=some (.lst vs)/\cQ X qn M H ls vs
theorem xQ{n:Nat}(h:n<1000):n<=sizeLine:=by rw[nK];lia
section
theorem Cj(hK:z.K=X.K)(mk:pq X qn q c)(B:aM X.env.scope l.scope)(L:eu l.params l.scope)(hN:X.N.Nodup)(hi:X.N[ic]?=some y)(hx:Loc X.env.scope y)(hf:X.fn y=true\/X.env.scope.names.lookup y=some .local)(hg:g[ic]?=some .no) :
  ∃t,PS X (.Assign [.Name y py] (.List [l.ex] lp) pos) t/\∀σ As M H (E:Ends),S z g σ As M H->(∀σ' H',LL X z g qn ic M H [l] σ' H'->E.nx σ' H')->t E σ H:=by
 refine⟨_,nY hN hi hx (wR (bC (xO (z:=z) (g:=g) hK mk B L) dW rfl)) rfl hf,λσ As M H E s kE=>⟨As,M,s,λv H' s' st' la kl=>⟨xQ (show 1<1000 by decide),λp hp=>kE _ _ ?_⟩⟩⟩
 have s2:=s'.aQ (xs:=[v]) hp;have hl:ic<σ.length:=by rw[<- s.sl.length];exact (b0.mp hg).1
 have aK:aq M H' (p::M) (upd H' p (.lst [v])):=aq.aQ hp;exact⟨As,p::M,p,[v],s2.gJ hg,st'.trans aK,fI hl,dA,λh=>s'.fresh hp (s'.sub p h),s'.bW hp,aA,.cons (la.stay aK) .nil⟩
theorem xR(hK:z.K=X.K)(mk:pq X qn q c)(B:aM X.env.scope l.scope)(L:eu l.params l.scope)(hi:X.N[ic]?=some y)(hv:gR X.env.scope y)(hd:(y==("__debug__":Str))=false)(bE:(y==("__classdict__":Str))=false)(hls:ls.length<1000)(hline:(bG.endLine==aR.line)=true) :
  ∃t,PS X (.Expr (.Call (.Attribute (.Name y pn) "append" bG) [l.ex] [] aR) pos) t/\∀σ H M0 H0 (E:Ends),LL X z g qn ic M0 H0 ls σ H->(∀H',LL X z g qn ic M0 H0 (ls++[l]) σ H'->E.nx σ H')->t E σ H:=by
 refine⟨_,nD (uL wT A9 Bi iR (bM hi hv hd bE) (bC (xO (z:=z) (g:=g) hK mk B L) dW rfl) rfl rfl hline rfl rfl) rfl,λσ H M0 H0 E h kE=>?_⟩
 obtain⟨As,M,a,vs,s,st,e1,hm,hA,h0,ha,la⟩:=h;refine⟨.ref a,e1,.inl ⟨rfl,vs,bZ.of ha⟩,As,M,s,λv H' s' st' la' kl=>⟨a,vs,v,rfl,rfl,kl a vs ha,by rw[<- la.length,nK];lia,kE _ ?_⟩⟩
 exact⟨As,M,a,vs++[v],s'.xN hm hA h0 (kl a vs ha),(st.trans st').trans (aq.write hm),e1,hm,hA,h0,aA,((la.stay st').push la').stay (aq.write hm)⟩
end
theorem lH.un'(c:lH N σ scope cl H h)(u:Un fs ex H H' h h')(hx:∀x a,cl.lookup x=some a->a∉ex):lH N σ scope cl H' h':=by
 have key:∀x a v,cl.lookup x=some a->h.IsCell a v->h'.IsCell a v:=λx a v e ⟨o,e1,d⟩=>by
  obtain⟨sl,e2⟩:=u.any e1 (c.cell x a e).1 (hx x a e);exact⟨_,e2,d⟩
 refine⟨c.inj,c.has,λx a e=>?_,λi x v h1 h2 h3=>?_,c.len⟩
 . obtain⟨hn,v,o,e1,d⟩:=c.cell x a e;exact⟨u.free a o e1 hn (hx x a e),v,key x a v e ⟨o,e1,d⟩⟩
 . obtain⟨f,w,a,r,e,z⟩:=c.loc i x v h1 h2 h3;exact⟨f,w,a,r,e,key x a _ e z⟩
noncomputable def asD:R->Option D
 |.dat d=>some d
 |.new l=>some (.lst l)
 |.var _=>none
theorem xS(s:S z g σ As M H)(h:cN z g σ As M H r v)(e:asD r=some d):∃M',S z g σ As M' H/\aq M H M' H/\Rep z.K M' H d v:=by
 cases r with
 |dat d'=>cases e;exact⟨M,s,aq.refl _ _,h⟩
 |var i=>cases e
 |new l=>
  cases e;obtain⟨a,xs,rfl,hm,hA,h0,ha,rr⟩:=h;have hM:∀m∈(M.filter λm=>decide (m≠a)),m∈M:=λm hm=>(i8.mp hm).1
  have na:a∉(M.filter λm=>decide (m≠a)):=λhm=>by
   have:=(i8.mp hm).2;simp at this
  exact⟨_,s.drop h0 hA,aq.less hM,.lst ⟨na,ha⟩ (rr.stay (aq.less hM))⟩
section
def pA(X:Cx)(z:Z)(g:G)(qn:Str)(N':List Str)(iv:Nat)(scope:Scope)(bH:Expr)(l:Lt)(d:D):Prop:=
 ∀(bk:Bk) (σ:Sg),WL X σ bk->∀(gb:G) (σb:Sg) (Ab Mb:List Addr) (Hb:Hp) (v:V) (A1:List Addr) (Q:VK),S z gb σb Ab Mb Hb->σb[iv]?=some (some v)->Slots z.K Mb Hb g σ A1->jm X qn Mb Hb l v->
  (∀v' H' aC M',S z gb σb aC M' H'->aq Mb Hb M' H'->Rep z.K M' H' d v'->Q v' H')->Bg (X.blk N' scope bk) bH σb Hb Q
theorem RV{l:Lt}{r':R}{d:D}{v fx qual:Str}{fp vp cp:Pos}{st:Stmt}{f:Addr}{fd:FuncData}(B:aM X.env.scope l.scope)(L:eu l.params l.scope)(Ff:Jk X.K fx qual st f fd)(hm:X.mg fx=some (.ref f))(jt:(fx==("__debug__":Str))=false)
  (hg:∀bk:Bk,Gl (X.blk N' scope bk) fx) {iv:Nat} (hix:N'[iv]?=some v) (hv:∀bk:Bk,gR (X.blk N' scope bk).env.scope v) (hd:(v==("__debug__":Str))=false) (bE:(v==("__classdict__":Str))=false)
  (hcall:∀bk:Bk,xP (X.blk N' scope bk) X z g qn l r' f) (hr:asD r'=some d):pA X z g qn N' iv scope (.Call (.Name fx fp) [.Name v vp] [] cp) l d:=by
 intro bk σ hbk gb σb Ab Mb Hb v0 A1 Q s0 hσ sl la kQ;refine⟨λσ' H' Q'=>∃As M A0,S z gb σ' As M H'/\σ'[iv]?=some (some v0)/\Slots z.K M H' g σ A0/\jm X qn M H' l v0/\∀v' H2 aC M',S z gb σ' aC M' H2->aq M H' M' H2->Rep z.K M' H2 d v'->Q' v' H2,?_,Ab,Mb,A1,s0,hσ,sl,la,kQ⟩
 intro ah s1 σ' H' Q' I ⟨As,M,A0,S1,hv0,XM,la0,kQ0⟩;refine tJ (fB I (hg bk) hm ?_ jt);refine AM (h₀:=X.base) I.ok.mod.Dn Ff.kp (l5 ((bC (bM (X:=X.blk N' scope bk) hix (hv bk) hd bE) dW rfl) cp ah s1 σ' H' (λvs H1=>vs=[v0]/\H1=H') I ⟨v0,hv0,rfl,rfl⟩) (λus s2 q1=>?_) λ_ _ z=>z) rfl rfl
 obtain⟨vs,H1,I1,rv,rfl,rfl⟩:=q1;obtain⟨p,c',gX,cl,rfl,np1,nc1,hp1,hc1,Cd,Le⟩:=la0;obtain⟨pins0,I0,f0⟩:=hbk;have C0:lH X.N σ l.scope cl H1 s2.heap:=(zF I0 B L.nl Cd Le).un' I1.base λx a e hb=>(f0 a hb).2.2.2.2.1 x a (Cd x a e).1 rfl
 refine⟨I1.nB,hcall bk I1 S1 hp1 hc1 C0 XM rv λu v H' s' aC M' I' r1 a b d'=>?_⟩
 obtain⟨M2,s3,dU,R3⟩:=xS a d' hr;exact⟨v,H',I',r1,kQ0 v H' aC M2 s3 (b.trans dU) R3⟩
inductive d7(P:Lt->D->Prop):List Lt->List D->Prop
 |nil:d7 P [] []
 |cons {l:Lt}{ls:List Lt}{d:D}{ds:List D}:P l d->d7 P ls ds->d7 P (l::ls) (d::ds)
theorem d7.get(h:d7 P ls ds):∀{i:Nat}{l:Lt},ls[i]?=some l->∃d,ds[i]?=some d/\P l d:=by
 induction h with
 |nil=>intro i l e;cases e
 |cons a _ ih=>intro i l e;cases i with
  |zero=>cases (show some _=some l from e);exact⟨_,rfl,a⟩
  |succ i=>exact ih (i:=i) e
theorem d7.length(h:d7 P ls ds):ls.length=ds.length:=by
 induction h with
 |nil=>rfl
 |cons _ _ ih=>exact congrArg (· + 1) ih
theorem xT(hj:j<k)(hN:Names X.N N' scope k)(B:aM X.env.scope scope)(hc:X.calm=true)(hi:X.N[ic]?=some y)(hv:gR X.env.scope y)(hd:(y==("__debug__":Str))=false)(bE:(y==("__classdict__":Str))=false)
  (hx:∀b:Bk,oM (X.blk N' scope b) x (X.N.length+j)) (zG:g.length=X.N.length) (hls:ls.length<1000) (he:d7 (pA X z g qn N' (X.N.length+j) scope bH) ls ds) :
  ∃t,PE X (.ListComp bH [⟨.Name x px,.Name y py,[],0⟩] scope pos) t/\∀σ H M0 H0 Q,LL X z g qn ic M0 H0 ls σ H->Kn z g σ M0 H0 (.new ds) Q->t σ H Q:=by
 refine⟨_,yX (k:=k) (wi:=NZ X.K (Pn ic)) B hc hN (sy (bM hi hv hd bE)) (λb=>⟨iQ (hx b).nd (hx b).ix (hx b).lc (hx b).fn,oq,oO⟩) (λ_=>rfl),λσ H M0 H0 Q h kq=>?_⟩
 obtain⟨As,M,a,vs,s,st,e1,hm,hA,h0,ha,la⟩:=h;have hM:∀m∈(M.filter λm=>decide (m≠a)),m∈M:=λm hm=>(i8.mp hm).1
 have na:a∉(M.filter λm=>decide (m≠a)):=λhm=>by
  have:=(i8.mp hm).2;simp at this
 have s1:=s.drop h0 hA;have cI:=st.trans (aq.less (H:=H) hM);have la1:=la.stay (aq.less (H:=H) hM);generalize (M.filter λm=>decide (m≠a))=M1 at na s1 cI la1
 refine⟨.ref a,e1,a,rfl,⟨vs,bZ.of ha⟩,λD hD=>?_⟩
 have hl:g.length=σ.length:=s.sl.length;have hlN:σ.length=X.N.length:=hl.symm.trans zG;have XR:z.H0 D=none:=s1.bW hD;have nA:D∉As:=λh=>s1.fresh hD (s1.sub D h)
 have sb:=(s1.aQ (xs:=[]) hD).extend (k:=k) (l:=[]) dA nA XR aA .nil;refine⟨λi m σ' H'=>i+m=ls.length/\∃Ab Mb w,S z (g++(List.replicate k .no++[.own (ds.take i)])) σ' Ab Mb H'/\aq M1 H Mb H'/\w.length=k/\σ'=σ++(w++[some (.ref D)]),⟨ls.length,Bz _,_,_,_,sb,aq.aQ hD,gL,rfl⟩,?_⟩
 rintro i m σ' H' ⟨W8,Ab,Mb,w,s2,aK,hw,rfl⟩;have ha2:=aK _ _ ha na;have la2:=la1.stay aK;have mG:∀w:List (Option V),w.length=k->(σ++(w++[some (V.ref D)]))[g.length+k]?=some (some (V.ref D)):=λw hw=>by rw[hl,eA (rV _ _),kA,eA ⋯,hw,BA];rfl
 have zH:∀l,(g++(List.replicate k Slot.no++[Slot.own l]))[g.length+k]?=some (.own l):=λl=>by rw[eA (rV _ _),kA,eA (by rw[gL];exact dS _),gL,BA];rfl
 cases e:ls[i]? with
 |none=>
  have hi':i=ls.length:=by have:=l7.mp e;lia
  refine .inl ⟨⟨vs,bZ.of ha2.1,by rw[<- la.length,hi'];exact dS _⟩,?_⟩
  rw[List.take_of_length_le (by rw[<- he.length,hi'];exact dS _)]at s2
  obtain⟨b,xs,f1,f2,f3,f4⟩:=s2.sl.at (zH ds);rw[mG w hw]at f1;injection f1 with f1;injection f1 with f1;injection f1 with f1;subst f1;obtain⟨A1,s3,m3,n3⟩:=s2.shrink (λp hp=>(b0.mp (s.iT p hp).1).1) (i:=g.length+k) ⋯ (zH ds) (mG w hw)
  rw[List.take_append_of_le_length ⋯,List.take_of_length_le ⋯]at s3;exact kq _ H' A1 Mb s3 (cI.trans aK) ⟨D,xs,rfl,m3,n3,XR,f3,f4⟩
 |some l=>
  obtain⟨v,ev,lv⟩:=la2.get e;obtain⟨d,ed,hE⟩:=he.get e;refine .inr ⟨⟨vs,v,bZ.of ha2.1,ev⟩,λσ' H'=>∃Ab Mb w,S z (g++(List.replicate k .no++[.own (ds.take (i+1))])) σ' Ab Mb H'/\aq M1 H Mb H'/\w.length=k/\σ'=σ++(w++[some (.ref D)]),λAu Av hN=>⟨m - 1,by have:=(b0.mp e).1;lia,by have:=(b0.mp e).1;lia,hN⟩,λx' H2 hx' bk hbk=>?_⟩
  obtain⟨rfl,hy⟩:=hx';have:=hy vs (bZ.of ha2.1);rw[ev]at this;cases this;have Oc:(w.set j (some v)).length=k:=by rw[pV];exact hw
  have es:(σ++(w++[some (V.ref D)])).set (X.N.length+j) (some v)=σ++(w.set j (some v)++[some (V.ref D)]):=by rw[<- hlN,sR _ _ (rV _ _),kA,B5 _ _ ⋯]
  have s3:S z (g++(List.replicate k .no++[.own (ds.take i)])) (σ++(w.set j (some v)++[some (V.ref D)])) Ab Mb H2:=by rw[<- es];exact s2.gJ (by rw[<- zG,eA (rV _ _),kA,dL (by rw[gL];exact hj),AI,fN hj])
  obtain⟨σ1,σ2,A1,A2,c1,c2,c3,c4⟩:=s3.sl.split;obtain⟨rfl,_⟩:=List.append_inj c1 (hl.symm.trans c3.length);unfold qT Ei;dsimp only;rw[fN rfl];show Bg _ bH ((σ++(w++[some (V.ref D)])).set (X.N.length+j) (some v)) H2 _;rw[es];refine hE bk σ hbk _ _ Ab Mb H2 v A1 _ s3 (by rw[<- hlN,eA (rV _ _),kA,dL ⋯,fI ⋯]) c3 lv λv' H3 mF M3 s4 oN R4=>?_
  obtain⟨b,xs,f1,f2,f3,f4⟩:=s4.sl.at (zH (ds.take i));rw[mG _ Oc]at f1;injection f1 with f1;injection f1 with f1;injection f1 with f1;subst f1;have ht:ds.take (i+1)=ds.take i++[d]:=by rw[List.take_add_one,ed];rfl
  obtain⟨s5,jU⟩:=s4.write (l':=ds.take (i+1)) (zH _) (mG _ Oc) (by rw[ht];exact f4.append (.cons R4 .nil))
  have eg:(g++(List.replicate k Slot.no++[Slot.own (ds.take i)])).set (g.length+k) (.own (ds.take (i+1)))=g++(List.replicate k Slot.no++[Slot.own (ds.take (i+1))]):=by rw[sR _ _ (rV _ _),kA,sR _ _ (by rw[gL];exact dS _),gL,BA];rfl
  rw[eg]at s5;refine⟨xs,f3,?_,mF,M3,_,s5,(aK.trans oN).trans jU,Oc,rfl⟩;rw[<- f4.length,nK,wE];have:=Nat.min_le_right i ds.length;rw[<- he.length]at this ⊢
  lia
theorem vA(hj:j<k)(hN:Names X.N N' scope k)(B:aM X.env.scope scope)(hc:X.calm=true)(hi:X.N[ic]?=some y)(hv:gR X.env.scope y)(hd:(y==("__debug__":Str))=false)(bE:(y==("__classdict__":Str))=false)
  (hx:∀b:Bk,oM (X.blk N' scope b) x (X.N.length+j)) (hls:ls.length<1000) (he:d7 (pA X z g qn N' (X.N.length+j) scope bH) ls ds) :
  ∃t,PE X (.ListComp bH [⟨.Name x px,.Name y py,[],0⟩] scope pos) t/\∀σ H M0 H0 Q,LL X z g qn ic M0 H0 ls σ H->Kn z g σ M0 H0 (.new ds) Q->t σ H Q:=by
 by_cases zG:g.length=X.N.length
 . exact xT hj hN B hc hi hv hd bE hx zG hls he
 .
  refine⟨λσ H Q=>σ.length≠X.N.length,λah s σ H Q I h=>absurd I.len h,λσ H M0 H0 Q h _ e=>?_⟩
  obtain⟨As,M,a,vs,s,_⟩:=h;exact zG (s.sl.length.trans e)
end
inductive RW(X:Cx):List Stmt->List TS->Prop
 |nil:RW X [] []
 |cons {s:Stmt}{ss:List Stmt}{t:TS}{ts:List TS}:PS X s t->RW X ss ts->RW X (s::ss) (t::ts)
def Ln:List TS->TS->TS
 | [],u=>u
 |t::ts,u=>V5 t (Ln ts u)
theorem RW.pss{X:Cx}{ss rest:List Stmt}{ts:List TS}{u:TS}(h:RW X ss ts)(hu:se X rest u):se X (ss++rest) (Ln ts u):=by
 induction h with
 |nil=>exact hu
 |cons a _ ih=>exact dQ a ih
def nk(X:Cx)(z:Z)(ss:List Stmt)(g:G)(f:Fl)(g':G):Prop:=
 ∃ts,RW X ss ts/\∀(u:TS) σ As M H (E:Ends),S z g σ As M H->j5 z M H { E with nx:=u E} g' f->Ln ts u E σ H
theorem nk.lift(h:nk X.mh z ss g f g'):nk X z ss g f g':=by
 obtain⟨ts,q,k⟩:=h;refine⟨ts,?_,k⟩;clear k
 induction q with
 |nil=>exact .nil
 |cons a _ ih=>exact .cons (λah s σ H D I hw=>l5 (a ah s σ H D (I.wish _) hw) (λ_ _ q=>q.cM) λ_ _ z=>False.elim z) ih
theorem nk.bk{X:Cx}{z:Z}{ss rest:List Stmt}{g g1 g':G}{f:Fl}(h:nk X z ss g .nx g1)(h2:dY X z rest g1 f g'):dY X z (ss++rest) g f g':=by obtain⟨t2,q2,k2⟩:=h2;obtain⟨t,q,k⟩:=h;exact⟨_,q.pss q2,λσ As M H E s kE=>k t2 σ As M H E s λσ' aC M' H' s' st=>k2 σ' aC M' H' E s' (kE.trans st)⟩
theorem nk.end{X:Cx}{z:Z}{ss rest:List Stmt}{g g':G}{f:Fl}(h:nk X z ss g f g')(hn:f≠.nx):dY X z (ss++rest) g f g':=by
 obtain⟨t,q,k⟩:=h;refine⟨_,q.pss bu,λσ As M H E s kE=>k _ σ As M H E s ?_⟩
 cases f with
 |nx=>exact absurd rfl hn
 |rt r=>exact kE
 |bk=>exact kE
 |ct=>exact kE
theorem nk.ra{X:Cx}{z:Z}{ss rest:List Stmt}{g g1 g':G}{C:Addr}(h:nk X z ss g .nx g1)(h2:KN X z rest g1 C g'):KN X z (ss++rest) g C g':=by obtain⟨t2,q2,k2⟩:=h2;obtain⟨t,q,k⟩:=h;exact⟨_,q.pss q2,λσ As M H E s kE=>k t2 σ As M H E s λσ' aC M' H' s' st=>k2 σ' aC M' H' E s' (kE.trans st)⟩
def LsOk(X:Cx)(z:Z)(qn:Str)(ic:Nat)(ls:List Lt)(st:Stmt)(g:G)(f:Fl)(g':G):Prop:=
 ∃t,PS X st t/\∀σ H M0 H0 (E:Ends),LL X z g qn ic M0 H0 ls σ H->j5 z M0 H0 E g' f->t E σ H
inductive xU(y:Str):List Stmt->List Lt->Prop
 |nil:xU y [] []
 |cons {l:Lt}{ls:List Lt}{ss:List Stmt}{pn bG aR pos:Pos}:(bG.endLine==aR.line)=true->xU y ss ls->xU y (.Expr (.Call (.Attribute (.Name y pn) "append" bG) [l.ex] [] aR) pos::ss) (l::ls)
section
variable{st:Stmt}
theorem xV(hK:z.K=X.K)(mk:pq X qn q c)(hi:X.N[ic]?=some y)(hv:gR X.env.scope y)(hd:(y==("__debug__":Str))=false)(bE:(y==("__classdict__":Str))=false):∀{ms ls:List Lt},xU y ss ms->(∀m∈ms,aM X.env.scope m.scope/\eu m.params m.scope)->ls.length+ms.length<1000->
  LsOk X z qn ic (ls++ms) st g f g'->∃ts,RW X (ss++[st]) ts/\∀(u:TS) σ H M0 H0 (E:Ends),LL X z g qn ic M0 H0 ls σ H->j5 z M0 H0 { E with nx:=u E} g' f->Ln ts u E σ H:=by
 induction ss with
 |nil=>intro ms ls ha _ _ ⟨t,q,k⟩;cases ha;rw[mB]at k;exact⟨[t],.cons q .nil,λu σ H M0 H0 E h kE=>k σ H M0 H0 { E with nx:=u E} h kE⟩
 |cons s ss ih=>
  intro ms ls ha hm hl hs;cases ha with
  |@cons m ms _ pn bG aR pos' e ha=>
   obtain⟨B,L⟩:=hm m dA;obtain⟨t1,q1,k1⟩:=xR (z:=z) (g:=g) (ls:=ls) (pos:=pos') (pn:=pn) hK mk B L hi hv hd bE ⋯ e;obtain⟨t2,q2,k2⟩:=ih (ls:=ls++[m]) ha (λm h=>hm m (a9 _ h)) (by simp at hl ⊢;lia) (by rw[AT];exact hs)
   exact⟨t1::t2,.cons q1 q2,λu σ H M0 H0 E h kE=>k1 σ H M0 H0 _ h λH' h'=>k2 u σ H' M0 H0 E h' kE⟩
theorem mQ(hK:z.K=X.K)(mk:pq X qn q c)(hN:X.N.Nodup)(hi:X.N[ic]?=some y)(hx:Loc X.env.scope y)(hf:X.fn y=true\/X.env.scope.names.lookup y=some .local)(hv:gR X.env.scope y)(hd:(y==("__debug__":Str))=false)(bE:(y==("__classdict__":Str))=false)(hg:g[ic]?=some .no)
  {ss:List Stmt} (ha:xU y ss ls) (hm:∀m∈l::ls,aM X.env.scope m.scope/\eu m.params m.scope) (hl:ls.length<900) (hs:LsOk X z qn ic (l::ls) st g f g'):nk X z (.Assign [.Name y py] (.List [l.ex] lp) pos::(ss++[st])) g f g':=by
 obtain⟨B,L⟩:=hm l dA;obtain⟨t1,q1,k1⟩:=Cj (z:=z) (g:=g) (py:=py) (lp:=lp) (pos:=pos) hK mk B L hN hi hx hf hg;obtain⟨t2,q2,k2⟩:=xV (ls:=[l]) hK mk hi hv hd bE ha (λm h=>hm m (a9 _ h)) (by simp;lia) hs
 exact⟨t1::t2,.cons q1 q2,λu σ As M H E s kE=>k1 σ As M H _ s λσ' H' h'=>k2 u σ' H' M H E h' kE⟩
theorem Gy(h1:∃t,PE X RX t/\∀σ H M0 H0 Q,LL X z g qn ic M0 H0 ls σ H->Kn z g σ M0 H0 (.new ds) Q->t σ H Q)(h2:aD X z qH g r2 g2)(p2:pk r2 g2=some d2)(ho:nh X z (compareOp op) (.lst ds) d2 (.dat (.bl b)))(hm:behindInMarks op qH=false)
  (hb:dY X z (if b then body else []) g2 f g'):LsOk X z qn ic ls (.If (.Compare RX [op] [qH] aR) body [] pos) g f g':=by
 obtain⟨t1,q1,k1⟩:=h1;obtain⟨t2,q2,k2⟩:=h2;obtain⟨rr,o,ko⟩:=ho;obtain⟨t3,q3,k3⟩:=hb;have go:∀σ H M0 H0 (Q:Bool->Hp->Prop),LL X z g qn ic M0 H0 ls σ H->(∀H' aC M',S z g2 σ aC M' H'->aq M0 H0 M' H'->Q b H')->t1 σ H λv1 H1=>t2 σ H1 λv2 H2=>rr v1 v2 H2 λv H3=>∃c,v=.bl c/\Q c H3:=λσ H M0 H0 Q h kQ=>
  k1 σ H M0 H0 _ h λv1 H1 aO M1 s1 cI R1=>by
   obtain⟨M1',s1',RZ,Xo⟩:=xS s1 R1 rfl;exact k2 σ aO M1' H1 _ s1' λv2 H2 bw M2 s2 aK R2=>ko g2 σ bw M2 H2 v1 v2 _ s2 (.of (Xo.stay aK)) (s2.pk (aq.refl _ _) R2 p2) λv H' aC M' s' st' R'=>⟨b,fD R',kQ H' aC M' s' (((cI.trans RZ).trans aK).trans st')⟩
 cases b with
 |true=>exact⟨_,nX (sC o q1 q2 hm) q3 bu,λσ H M0 H0 E h kE=>go σ H M0 H0 _ h λH' aC M' s' st'=>jw (k3 σ aC M' H' E s' (kE.trans st'))⟩
 |false=>exact⟨_,nX (sC o q1 q2 hm) bu q3,λσ H M0 H0 E h kE=>go σ H M0 H0 _ h λH' aC M' s' st'=>ng (k3 σ aC M' H' E s' (kE.trans st'))⟩
theorem Ck(h1:∃t,PE X RX t/\∀σ H M0 H0 Q,LL X z g qn ic M0 H0 ls σ H->Kn z g σ M0 H0 (.new ds) Q->t σ H Q)(h2:aD X z qH g r2 g2)(p2:pk r2 g2=some d2)(ho:nh X z (compareOp op) (.lst ds) d2 (.dat (.bl b)))(hm:behindInMarks op qH=false) :
  LsOk X z qn ic ls (.Return (some (.Compare RX [op] [qH] aR)) pos) g (.rt (.dat (.bl b))) g2:=by
 obtain⟨t1,q1,k1⟩:=h1;obtain⟨t2,q2,k2⟩:=h2;obtain⟨rr,o,ko⟩:=ho;refine⟨_,sr (yS o q1 q2 hm),λσ H M0 H0 E h kE=>k1 σ H M0 H0 _ h λv1 H1 aO M1 s1 cI R1=>?_⟩
 obtain⟨M1',s1',RZ,Xo⟩:=xS s1 R1 rfl;exact k2 σ aO M1' H1 _ s1' λv2 H2 bw M2 s2 aK R2=>ko g2 σ bw M2 H2 v1 v2 _ s2 (.of (Xo.stay aK)) (s2.pk (aq.refl _ _) R2 p2) λv H' aC M' s' st' R'=>kE v σ aC M' H' s' (((cI.trans RZ).trans aK).trans st') R'
end
end Ev
namespace L2
section
theorem jA
  (h0:codeAny (model prog w) A (.compLoop (.ListComp bH [⟨t1,i1,f1,0⟩,⟨target,iter,ifs,0⟩] scope pos) 1 it acc env) R s)
  (h:wpAny (model prog w) A (pyIter it) (λit' s'=>codeAny (model prog w) A (.compLoop (.ListComp bH [⟨t1,i1,f1,0⟩,⟨target,iter,ifs,0⟩] scope pos) 1 it' acc env) R s') (λ_ _=>False) s) :
  codeAny (model prog w) A (.compStart (.ListComp bH [⟨t1,i1,f1,0⟩,⟨target,iter,ifs,0⟩] scope pos) 1 it acc env) R s:=by
 refine codeAny_of_tree ?_;show wpAny _ _ ((compStart (.ListComp bH [⟨t1,i1,f1,0⟩,⟨target,iter,ifs,0⟩] scope pos) 1 it acc env).onRaise (λx=>do noteFrame x env;standAt theWindowsPlace)) _ _ s
 refine wpAny_notedAt ?_;unfold compStart;show wpAny _ _ (ask >>= _) _ _ s;refine aS (wpAny_askSetting (wpAny_ite ?_));split
 .
  first
   |exact aS (dE (dE (And.intro rfl h0)))
   |exact dE (And.intro rfl h0)
 .
  first
   |exact aS (CO (aS (AG (aS (l5 h (λit' s' h'=>dE (And.intro rfl h')) λ_ _ x=>x.elim)))))
   | (refine aS (CO ?_);show wpAny _ _ (standAt iter.pos >>= _) _ _ s;exact aS (AG (aS (l5 h (λit' s' h'=>dE (And.intro rfl h')) λ_ _ x=>x.elim))))
end
noncomputable def Cp(bH t1 i1 tg iter:Expr)(f1 ifs:List Expr)(scope:Scope)(pos:Pos)(acc:Value)(env:Env):Sem Unit:=do
 let x <- eval iter env
 standAt iter.pos
 let x <- foldedSetIterable iter env x
 let _ <- runOwn (.compStart (.ListComp bH [⟨t1,i1,f1,0⟩,⟨tg,iter,ifs,0⟩] scope pos) 1 (<- holding [x] (pyIter x)) acc env) env
noncomputable def XS(wi:TI)(g:TG)(tt:TT)(tu:TU):TU:=λσ H Q=>wi σ H λJ H1=>∃W:Nat->Nat->St->Hp->Prop,(∃m,W 0 m σ H1)/\∀i m σ' H',W i m σ' H'->
 (J.stop i H'/\Q σ' H')\/(J.go i H'/\∃Nn:St->Hp->Prop,(∀Au Av,Nn Au Av->∃m',m'<m/\W (i+1) m' Au Av)/\∀x H2,J.V9 i H' x H2->g x σ' H2 λσ2 H3=>tt σ2 H3 λb H4=>if b=true then tu σ2 H4 Nn else Nn σ2 H4)
theorem Od(hc:X.calm=true)(hx:X.xe=λ_ _=>False)(hi:PI X tg iter wi)(hg:PG X tg g)(ht:kX X ifs tt)(he:PE X bH te)(hs:∀x,foldedSetIterable iter X.env x=pure x) :
  PU X (Cp bH t1 i1 tg iter f1 ifs scope pos (.ref D) X.env) (XS wi g tt (qA D te)):=by
 intro ah s σ H Q I h;have hi:=hi ah s σ H _ I h;rw[hx]at hi;unfold Cp;refine aS (l5 hi (λv s1 h1=>?_) λ_ _ z=>z)
 refine aS (AG ?_);rw[hs v];refine aS (dE ?_);refine aS (mM (l5 h1 (λitv s2 h2=>?_) λ_ _ z=>z))
 obtain⟨it,fp,tn,J,H2,rfl,I2,T,aK,f2,W,⟨m0,w0⟩,turn⟩:=h2;have stat:∀{H':Hp},(∀b∈fp,H' b=none)->∀b∈fp,jT X ah H' b:=λhn b hb=>⟨hn b hb,(f2 b hb).2⟩
 have loop:codeAny (model X.prog X.w) X.A (.compLoop (.ListComp bH [⟨t1,i1,f1,0⟩,⟨tg,iter,ifs,0⟩] scope pos) 1 (.ref it) (.ref D) X.env) (λr s'=>match r with |.ok f=>∃σ' H',Inv X ah σ' H' s'/\Q σ' H' |.error e=>False) s2:=by
  refine jY (target:=tg) (iter:=iter) (ifs:=ifs) (em:=do let _ <- call (.builtin "list.append") [.ref D,<- eval bH X.env]) rfl (λn s'=>∃i σ' H',Inv X ah σ' H' s'/\tn i s'.heap/\(∀b∈fp,H' b=none)/\W i n σ' H') ?_ m0 ⟨0,σ,H2,I2,aK,λb hb=>(f2 b hb).1,w0⟩
  rintro n s3 ⟨i,σ3,H3,I3,dU,N1,w3⟩;rcases turn i n σ3 H3 w3 with ⟨stop,qn⟩ |⟨go,Nn,hN,step⟩
  .
   refine bL (T.done X rfl rfl rfl hc i ah s3 σ3 H3 (λ_ _=>False) I3 (stat N1) dU stop) λr s4 ⟨hr,I4⟩=>?_
   subst hr;exact⟨σ3,H3,I4,qn⟩
  .
   refine bL (T.item X rfl rfl rfl hc i ah s3 σ3 H3 (λ_ _=>False) I3 (stat N1) dU go) λr s4 ⟨u,hr,h4⟩=>?_
   subst hr;refine bL h4 λ_ s5 ⟨x,H5,I5,r5,y5,jU,Wd⟩=>?_
   have Wf:=I5.pinned (stat Wd) (T.obj _ _ jU);have again:∀{σ7:St}{H7:Hp}{s7:Shared},Inv X (ah++kU fp s5.heap) σ7 H7 s7->Nn σ7 H7->∃m,m<n/\∃i σ' H',Inv X ah σ' H' s7/\tn i s7.heap/\(∀b∈fp,H' b=none)/\W i m σ' H':=λ{σ7 H7 s7} I7 n7=>by
    obtain⟨m',hm,w7⟩:=hN σ7 H7 n7;refine⟨m',hm,i+1,σ7,H7,I7.g9,T.keep _ _ _ jU λb hb o e=>(I7.pin (b,o) (i6 _ (i6 _ (dc hb e)))).1,λb hb=>?_,w7⟩
    obtain⟨o,e,d⟩:=T.obj _ _ jU b hb;exact (I7.pin (b,o) (i6 _ (i6 _ (dc hb e)))).2.1
   have hg:=hg _ s5 σ3 H5 x u _ Wf r5 (step x H5 y5);rw[hx]at hg;refine bL hg λ_ s6 ⟨σ6,H6,I6,q6⟩=>?_
   have ht:=ht _ s6 σ6 H6 _ I6 q6;rw[hx]at ht;refine bL ht λb s7 ⟨H7,I7,q7⟩=>?_
   cases b with
   |false=>
    rw[gN lL]at q7 ⊢
    exact again I7 q7
   |true=>
    rw[fN rfl]at q7 ⊢
    exact l5 (xg he hx _ s7 σ6 H7 _ I7 q7) (λ_ s9 ⟨σ9,H9,I9,q9⟩=>again I9 q9) λ_ _ z=>z
 have start:=jA loop (T.self _ 0 _ _ _ aK loop);refine aS (wpAny_runOwn (A7 start λr s' hr=>?_))
 cases r with
 |error e=>exact hr.elim
 |ok f=>exact dE hr
theorem vB:compTurn (.ListComp bH [⟨t1,i1,f1,0⟩,⟨tg,iter,ifs,0⟩] scope pos) 0 it acc env=wZ (.ListComp bH [⟨t1,i1,f1,0⟩,⟨tg,iter,ifs,0⟩] scope pos) t1 i1 f1 0 it acc env (Cp bH t1 i1 tg iter f1 ifs scope pos acc env):=by
 show (standAt i1.pos >>= λ_=>pyNext it >>= λr=>_)=(standAt i1.pos >>= λ_=>pyNext it >>= λr=>_)
 congr 1;funext _;congr 1;funext r
 cases r with
 |none=>rfl
 |some v=>
  show (letOwnedTupleGo t1 it v >>= λ_=>assign t1 env v >>= λ_=>_ >>= λok=>_)=(letOwnedTupleGo t1 it v >>= λ_=>assign t1 env v >>= λ_=>_ >>= λok=>_)
  congr 1;funext _;congr 1;funext _;congr 1;funext ok
  cases ok with
  |false=>rfl
  |true=>unfold Cp;simp only[bind_assoc,wS];rfl
section
theorem Gz{N':List Str}{k:Nat}{w1:TI}{w2:Bk->TI}{g1 g2:Bk->TG}{XT XX:Bk->TT}{te:Bk->TE}(B:aM X.env.scope scope)(hc:X.calm=true)(hN:Names X.N N' scope k)(hi:PI X t1 i1 w1)
  (hin:∀b:Bk,(PG (X.blk N' scope b) t1 (g1 b)/\kX (X.blk N' scope b) f1 (XT b))/\PI (X.blk N' scope b) tg iter (w2 b)/\PG (X.blk N' scope b) tg (g2 b)/\kX (X.blk N' scope b) ifs (XX b)/\PE (X.blk N' scope b) bH (te b))
  (hs:∀x,foldedSetIterable i1 X.env x=pure x) (hs2:∀(b:Bk) x,foldedSetIterable iter (X.blk N' scope b).env x=pure x) :
  PE X (.ListComp bH [⟨t1,i1,f1,0⟩,⟨tg,iter,ifs,0⟩] scope pos) (ou X k w1 g1 XT λD b=>XS (w2 b) (g2 b) (XX b) (qA D (te b))):=by
 intro ah s σ H Q I h;rw[eval_ListComp];refine iS (use:=none) B hc hN hi (rest:=[⟨tg,iter,ifs,0⟩]) (em:=λacc env=>Cp bH t1 i1 tg iter f1 ifs scope pos acc env) (λ_ _ _=>vB) (λb D=>⟨(hin b).1.1,(hin b).1.2,Od hc rfl (hin b).2.1 (hin b).2.2.1 (hin b).2.2.2.1 (hin b).2.2.2.2 (hs2 b)⟩) hs I h λs' H' D C m I' f' hn q=>?_
 refine⟨m,hn,λh' sb=>⟨.ref D,H',?_,rfl,q⟩⟩
 obtain⟨f0,f1,f2,f3,f4,f5⟩:=f';exact I'.turned (t':=s'.toks) (λb o hb e=>(sb.2 b hb).trans e) f0 f1 f3 f4 f5
theorem GC{N':List Str}{k:Nat}{w1:TI}{w2:Bk->TI}{g1 g2:Bk->TG}{XT XX:Bk->TT}{te:Bk->TE}{i:Nat}{y:Str}{py bJ:Pos}(B:aM X.env.scope scope)(hc:X.calm=true)(hN:Names X.N N' scope k)(hi:PI X t1 i1 w1)
  (hin:∀b:Bk,(PG (X.blk N' scope b) t1 (g1 b)/\kX (X.blk N' scope b) f1 (XT b))/\PI (X.blk N' scope b) tg iter (w2 b)/\PG (X.blk N' scope b) tg (g2 b)/\kX (X.blk N' scope b) ifs (XX b)/\PE (X.blk N' scope b) bH (te b))
  (Aw:X.N.Nodup) (hy:X.N[i]?=some y) (hl:X.env.scope.names.lookup y=some .local)
  (hsw:swapsWith (.ListComp bH [⟨t1,i1,f1,0⟩,⟨tg,iter,ifs,0⟩] scope pos) (some (.Name y py)) bJ.line X.env=pure true)
  (hs:∀x,foldedSetIterable i1 X.env x=pure x) (hs2:∀(b:Bk) x,foldedSetIterable iter (X.blk N' scope b).env x=pure x) :
  PS X (.Assign [.Name y py] (.ListComp bH [⟨t1,i1,f1,0⟩,⟨tg,iter,ifs,0⟩] scope pos) bJ) (JC (ou X k w1 g1 XT λD b=>XS (w2 b) (g2 b) (XX b) (qA D (te b))) (qT i)):=by
 intro ah s σ H D0 I h;rw[exec_Assign_Name_used _ _ _ _ hsw];refine aS (AG (aS ?_));show wpAny _ X.A (do let _ <- comprehension (.ListComp bH [⟨t1,i1,f1,0⟩,⟨tg,iter,ifs,0⟩] scope pos) scope X.env _ (newList []) false (eval i1 X.env) (some (assign (.Name y py) X.env))) _ _ s
 refine aS (l5 (iS (use:=some (assign (.Name y py) X.env)) (Q:=λ_ s'=>SP X ah D0 .next s') B hc hN hi (rest:=[⟨tg,iter,ifs,0⟩]) (em:=λacc env=>Cp bH t1 i1 tg iter f1 ifs scope pos acc env) (λ_ _ _=>vB) (λb D=>⟨(hin b).1.1,(hin b).1.2,Od hc rfl (hin b).2.1 (hin b).2.2.1 (hin b).2.2.2.1 (hin b).2.2.2.2 (hs2 b)⟩) hs I h λs' H' D C m I' f' hn q=>?_) (λ_ s' hq=>dE (dE hq)) λ_ _ e=>e)
 refine wpAny_assign_Name (kP I' Aw hy (.inl hl) (v:=.ref D) rfl (λs2 I2 hsb=>?_) (.inr hl))
 obtain⟨f0,f1,f2,f3,f4,f5⟩:=f';obtain⟨a,sb,ha⟩:=hsb;have nC:C≠a:=by
  rcases ha with e |e
  . rw[e];exact f1
  . exact mP (f4 _ _ e)
 refine⟨m,hn.sameBut sb nC,λh' sb'=>⟨_,H',?_,q⟩⟩
 exact I2.turned (t':=s2.toks) (λb o hb e=>(sb'.2 b hb).trans e) f0 f1 f3 f4 f5
end
end L2
namespace Ev
open L2
def R0(X:Cx)(tg iter:Expr):TI:=λσ H R=>∃wi,PI X tg iter wi/\wi σ H R
theorem GD:PI X tg iter (R0 X tg iter):=λah s σ H R I h=>let ⟨wi,q,k⟩:=h;q ah s σ H R I k
section
theorem GF(hC:∀g b g',sO g b g'->cP X z ifs g b g')(hE:∀g d g',Jm g d g'->aD X z bH g (.dat d) g')(hw:dZ X z tg iter g2 aj Rb)(ht:iA X z tg T)(cK:last∉T.ix)
  (hcp:je T last sO Jm aj Rb g3) {σ:Sg}{As M:List Addr}{H:Hp}{Nn:Sg->Hp->Prop}{D:Addr} (s:S z g2 σ As M H) (hD:σ[last]?=some (some (.ref D)))
  (k:∀σ' aC M' H',S z g3 σ' aC M' H'->aq M H M' H'->σ'[last]?=some (some (.ref D))->uC T.ix σ σ'->Nn σ' H'):XS (R0 X tg iter) (Fj X tg) (Fo X ifs) (qA D (Bg X bH)) σ H Nn:=by
 obtain⟨wi,q,kw⟩:=hw;refine⟨wi,q,kw σ As M H _ s λJ H1 aO M1 s1 cI hJ=>?_⟩
 refine⟨λi m σ' H'=>i+m=aj.length/\∃gb Ab Mb,S z gb σ' Ab Mb H'/\aq M1 H1 Mb H'/\uC T.ix σ σ'/\σ'[last]?=some (some (.ref D))/\je T last sO Jm (aj.drop i) gb g3,
  ⟨aj.length,by lia,_,_,_,s1,aq.refl _ _,uC.refl _ _,hD,hcp⟩,?_⟩
 rintro i m σ' H' ⟨W8,gb,Ab,Mb,s2,aK,ag,Bh,cp⟩;obtain⟨hgo,hstop⟩:=hJ Mb H' aK;cases e:aj[i]? with
 |none=>
  have hi:i=aj.length:=by have:=l7.mp e;lia
  subst hi;rw[AZ]at cp;cases cp;exact .inl ⟨hstop,k σ' Ab Mb H' s2 (cI.trans aK) Bh ag⟩
 |some d=>
  obtain⟨go,yl⟩:=hgo i d e;rw[drop_cons e]at cp;have hi:i<aj.length:=(b0.mp e).1;refine .inr ⟨go,λσ' H'=>∃gb Ab Mb,S z gb σ' Ab Mb H'/\aq M1 H1 Mb H'/\uC T.ix σ σ'/\σ'[last]?=some (some (.ref D))/\je T last sO Jm (aj.drop (i+1)) gb g3,
   λAu Av hN=>⟨m - 1,by lia,by lia,hN⟩,λx H2 hx=>?_⟩
  obtain⟨s3,dU,rx⟩:=yl x H2 hx z gb σ' Ab rfl s2;obtain⟨t,qt,kt⟩:=ht;cases cp with
  |skip e0 hc rest=>
   refine⟨t,qt,kt d gb _ e0 x _ Ab Mb H2 _ s3 rx λσ4 jd s4 XZ=>?_⟩
   obtain⟨t2,q2,k2⟩:=hC _ _ _ hc;refine⟨t2,q2,k2 _ jd Mb H2 _ s4 λH5 zo M5 s5 jU=>?_⟩
   exact ng ⟨_,zo,M5,s5,(aK.trans dU).trans jU,ag.trans XZ,by rw[XZ.2 _ cK];exact Bh,rest⟩
  |take e0 hc he ha hz' rest=>
   refine⟨t,qt,kt d gb _ e0 x _ Ab Mb H2 _ s3 rx λσ4 jd s4 XZ=>?_⟩
   obtain⟨t2,q2,k2⟩:=hC _ _ _ hc;obtain⟨t3,q3,k3⟩:=hE _ _ _ he;have Ks:σ4[last]?=some (some (V.ref D)):=by rw[XZ.2 _ cK];exact Bh
   refine⟨t2,q2,k2 _ jd Mb H2 _ s4 λH5 zo M5 s5 jU=>jw ⟨t3,q3,k3 _ zo M5 H5 _ s5 λv H6 Xa M6 s6 Rl R6=>?_⟩⟩
   obtain⟨a,xs,f1,f2,f3,f4⟩:=s6.sl.at ha;rw[Ks]at f1;injection f1 with f1;injection f1 with f1;injection f1 with f1;subst f1;obtain⟨s7,Xc⟩:=s6.write ha Ks (f4.append (.cons R6 .nil));exact⟨xs,f3,by rw[<- f4.length,nK];exact hz',_,Xa,M6,s7,(((aK.trans dU).trans jU).trans Rl).trans Xc,ag.trans XZ,Ks,rest⟩
end
inductive gK(T:Tg)(sO:G->Bool->G->Prop)(In:G->G->Prop):List D->G->G->Prop
 |nil {g:G}:gK T sO In [] g g
 |skip:T.set d g=some g1->sO g1 false g2->gK T sO In l g2 g'->gK T sO In (d::l) g g'
 |take:T.set d g=some g1->sO g1 true g2->In g2 g3->gK T sO In l g3 g'->gK T sO In (d::l) g g'
section
def xW(X:Cx)(z:Z)(N':List Str)(scope:Scope)(tg iter bH:Expr)(ifs:List Expr)(T:Tg)(last:Nat)(g2 g3:G):Prop:=
 ∃aj Rb,(∀bk:Bk,dZ (X.blk N' scope bk) z tg iter g2 aj Rb)/\je T last (λg b g'=>∀bk:Bk,cP (X.blk N' scope bk) z ifs g b g') (λg d g'=>∀bk:Bk,aD (X.blk N' scope bk) z bH g (.dat d) g') aj Rb g3
theorem mR(hw:dZ X z t1 i1 g aj g1)(ht1:∀b:Bk,iA (X.blk N' scope b) z t1 T1)(ht:∀b:Bk,iA (X.blk N' scope b) z tg T)(hT1:∀i∈T1.ix,g1.length<=i/\i<g1.length+k)(hT:∀i∈T.ix,g1.length<=i/\i<g1.length+k)
  (hcp:gK T1 (λg b g'=>∀bk:Bk,cP (X.blk N' scope bk) z f1 g b g') (xW X z N' scope tg iter bH ifs T (g1.length+k)) aj (gC k g1) gE) (hacc:gE[g1.length+k]?=some (.own acc)) :
  ∃wi,PI X t1 i1 wi/\∀σ As M H Q,S z g σ As M H->Kn z (gE.take g1.length) σ M H (.new acc) Q->ou X k wi (λb=>Fj (X.blk N' scope b) t1) (λb=>Fo (X.blk N' scope b) f1) (λD b=>XS (R0 (X.blk N' scope b) tg iter) (Fj (X.blk N' scope b) tg) (Fo (X.blk N' scope b) ifs) (qA D (Bg (X.blk N' scope b) bH))) σ H Q:=by
 obtain⟨wi,q,kw⟩:=hw;refine⟨wi,q,λσ As M H Q s kq=>kw σ As M H _ s λJ H1 aO M1 s1 cI hJ D hD=>?_⟩
 have hl:g1.length=σ.length:=s1.sl.length;have hz:∀p∈z.lent,p.1<σ.length:=λp hp=>(b0.mp (s1.iT p hp).1).1
 have X3:∀i∈T1.ix,σ.length<=i:=λi hi=>by rw[<- hl];exact (hT1 i hi).1
 have Rj:∀i∈T.ix,σ.length<=i:=λi hi=>by rw[<- hl];exact (hT i hi).1
 have GJ:g1.length+k∉T1.ix:=λh=>oD _ (hT1 _ h).2
 have cK:g1.length+k∉T.ix:=λh=>oD _ (hT _ h).2
 have s1':=s1.aQ (xs:=[]) hD;have h0:z.H0 D=none:=s1.bW hD;have nA:D∉aO:=λh=>s1.fresh hD (s1.sub D h)
 have sb:=s1'.extend (k:=k) (l:=[]) dA nA h0 aA .nil;have mG:(σ++(List.replicate k none++[some (V.ref D)]))[g1.length+k]?=some (some (V.ref D)):=by
  rw[hl,eA (rV _ _),kA,eA (by rw[gL];exact dS _),gL,BA]
  rfl
 refine⟨λi m σ' H'=>i+m=aj.length/\∃gb Ab Mb τ,S z gb σ' Ab Mb H'/\aq M1 H1 Mb H'/\σ'=σ++τ/\σ'[g1.length+k]?=some (some (.ref D))/\gK T1 (λg b g'=>∀bk:Bk,cP (X.blk N' scope bk) z f1 g b g') (xW X z N' scope tg iter bH ifs T (g1.length+k)) (aj.drop i) gb gE,
  ⟨aj.length,by lia,_,_,_,_,sb,aq.aQ hD,rfl,mG,hcp⟩,?_⟩
 rintro i m σ' H' ⟨W8,gb,Ab,Mb,τ,s2,aK,rfl,Bh,cp⟩;obtain⟨hgo,hstop⟩:=hJ Mb H' aK;cases e:aj[i]? with
 |none=>
  have hi:i=aj.length:=by have:=l7.mp e;lia
  subst hi;rw[AZ]at cp;cases cp;refine .inl ⟨hstop,?_⟩;obtain⟨a,xs,f1,f2,f3,f4⟩:=s2.sl.at hacc;rw[Bh]at f1;injection f1 with f1;injection f1 with f1;injection f1 with f1;subst f1;obtain⟨A1,s3,m3,n3⟩:=s2.shrink hz ⋯ hacc Bh;rw[<- hl]at s3;exact kq _ H' A1 Mb s3 (cI.trans aK) ⟨D,xs,rfl,m3,n3,h0,f3,f4⟩
 |some d=>
  obtain⟨go,yl⟩:=hgo i d e;rw[drop_cons e]at cp;have hi:i<aj.length:=(b0.mp e).1;refine .inr ⟨go,λσ' H'=>∃gb Ab Mb τ,S z gb σ' Ab Mb H'/\aq M1 H1 Mb H'/\σ'=σ++τ/\σ'[g1.length+k]?=some (some (.ref D))/\gK T1 (λg b g'=>∀bk:Bk,cP (X.blk N' scope bk) z f1 g b g') (xW X z N' scope tg iter bH ifs T (g1.length+k)) (aj.drop (i+1)) gb gE,
   λAu Av hN=>⟨m - 1,by lia,by lia,hN⟩,λx H2 hx bk _=>?_⟩
  obtain⟨s3,dU,rx⟩:=yl x H2 hx z gb (σ++τ) Ab rfl s2;obtain⟨t,qt,kt⟩:=ht1 bk;cases cp with
  |skip e0 hc rest=>
   refine⟨t,qt,kt d gb _ e0 x _ Ab Mb H2 _ s3 rx λσ4 jd s4 ag=>?_⟩
   obtain⟨τ',rfl⟩:=eU ag X3;obtain⟨t2,q2,k2⟩:=hc bk;refine⟨t2,q2,k2 _ jd Mb H2 _ s4 λH5 zo M5 s5 jU=>?_⟩
   refine ng ⟨_,zo,M5,τ',s5,(aK.trans dU).trans jU,rfl,?_,rest⟩;rw[ag.2 _ GJ];exact Bh
  |take e0 hc hin rest=>
   obtain⟨items2,Rb,Oc,Jr⟩:=hin;refine⟨t,qt,kt d gb _ e0 x _ Ab Mb H2 _ s3 rx λσ4 jd s4 ag=>?_⟩
   obtain⟨τ',rfl⟩:=eU ag X3;obtain⟨t2,q2,k2⟩:=hc bk;have Ks:(σ++τ')[g1.length+k]?=some (some (V.ref D)):=by rw[ag.2 _ GJ];exact Bh
   refine⟨t2,q2,k2 _ jd Mb H2 _ s4 λH5 zo M5 s5 jU=>jw ?_⟩
   refine GF (λg b g' h=>h bk) (λg d g' h=>h bk) (Oc bk) (ht bk) cK Jr s5 Ks λσ6 Xa M6 H6 s6 Rl hD6 ag6=>?_
   obtain⟨τ6,rfl⟩:=eU ag6 Rj;exact⟨_,Xa,M6,τ6,s6,((aK.trans dU).trans jU).trans Rl,rfl,hD6,rest⟩
theorem GK(B:aM X.env.scope scope)(hc:X.calm=true)(hN:Names X.N N' scope k)(hw:dZ X z t1 i1 g aj g1)(ht1:∀b:Bk,iA (X.blk N' scope b) z t1 T1)(ht:∀b:Bk,iA (X.blk N' scope b) z tg T)(hT1:∀i∈T1.ix,g1.length<=i/\i<g1.length+k)(hT:∀i∈T.ix,g1.length<=i/\i<g1.length+k)
  (hcp:gK T1 (λg b g'=>∀bk:Bk,cP (X.blk N' scope bk) z f1 g b g') (xW X z N' scope tg iter bH ifs T (g1.length+k)) aj (gC k g1) gE) (hacc:gE[g1.length+k]?=some (.own acc))
  (hs:∀x,foldedSetIterable i1 X.env x=pure x) (hs2:∀(b:Bk) x,foldedSetIterable iter (X.blk N' scope b).env x=pure x):aD X z (.ListComp bH [⟨t1,i1,f1,0⟩,⟨tg,iter,ifs,0⟩] scope pos) g (.new acc) (gE.take g1.length):=by
 obtain⟨wi,q,kk⟩:=mR hw ht1 ht hT1 hT hcp hacc;exact⟨_,Gz B hc hN q (λb=>⟨⟨lz,lA⟩,GD,lz,lA,oO⟩) hs hs2,kk⟩
theorem GL(B:aM X.env.scope scope)(hc:X.calm=true)(hN:Names X.N N' scope k)(hw:dZ X z t1 i1 g aj g1)(ht1:∀b:Bk,iA (X.blk N' scope b) z t1 T1)(ht:∀b:Bk,iA (X.blk N' scope b) z tg T)(hT1:∀i∈T1.ix,g1.length<=i/\i<g1.length+k)(hT:∀i∈T.ix,g1.length<=i/\i<g1.length+k)
  (hcp:gK T1 (λg b g'=>∀bk:Bk,cP (X.blk N' scope bk) z f1 g b g') (xW X z N' scope tg iter bH ifs T (g1.length+k)) aj (gC k g1) gE) (hacc:gE[g1.length+k]?=some (.own acc))
  (Aw:X.N.Nodup) (hy:X.N[i]?=some y) (hl:X.env.scope.names.lookup y=some .local) (hb:i∉z.bor) (hi:i<(gE.take g1.length).length)
  (hsw:swapsWith (.ListComp bH [⟨t1,i1,f1,0⟩,⟨tg,iter,ifs,0⟩] scope pos) (some (.Name y py)) bJ.line X.env=pure true)
  (hs:∀x,foldedSetIterable i1 X.env x=pure x) (hs2:∀(b:Bk) x,foldedSetIterable iter (X.blk N' scope b).env x=pure x):fW X z (.Assign [.Name y py] (.ListComp bH [⟨t1,i1,f1,0⟩,⟨tg,iter,ifs,0⟩] scope pos) bJ) g .nx ((gE.take g1.length).set i (.own acc)):=by
 obtain⟨wi,q,kk⟩:=mR hw ht1 ht hT1 hT hcp hacc;refine⟨_,GC B hc hN q (λb=>⟨⟨lz,lA⟩,GD,lz,lA,oO⟩) Aw hy hl hsw hs hs2,λσ As M H E s kE=>kk σ As M H _ s λv H' aC M' s' st R=>?_⟩
 obtain⟨a,xs,rfl,hm,hA,h0,ha,rr⟩:=R;obtain⟨bw,s2⟩:=s'.oz hb hi hm hA h0 ha rr;exact kE _ bw M' H' s2 st
end
inductive fO(z:Z)(As M:List Addr)(H:Hp):List Addr->List (List D)->Prop
 |nil:fO z As M H [] []
 |cons {p:Addr}{as:List Addr}{xs:List V}{l:List D}{ll:List (List D)}:p∈M->p∉As->z.H0 p=none->H p=some (.lst xs)->aI z.K M H l xs->fO z As M H as ll->fO z As M H (p::as) (l::ll)
section
theorem fO.stay(h:fO z As M H as ll)(st:aq M H M' H')(k:∀p∈as,p∈M'/\H' p=H p):fO z As M' H' as ll:=by
 induction h with
 |nil=>exact .nil
 |cons h1 h2 h3 h4 h5 _ ih=>obtain⟨k1,k2⟩:=k _ dA;exact .cons k1 h2 h3 (k2.trans h4) (h5.stay st) (ih λp hp=>k p (a9 _ hp))
theorem fO.mem(h:fO z As M H as ll):∀p∈as,p∈M/\p∉As/\z.H0 p=none/\∃xs,H p=some (.lst xs):=by
 induction h with
 |nil=>intro p h;cases h
 |cons h1 h2 h3 h4 _ _ ih=>intro p hp;rcases d6.mp hp with rfl |hp;exact⟨h1,h2,h3,_,h4⟩;exact ih p hp
theorem fO.get(h:fO z As M H as ll):∀{i:Nat}{l:List D},ll[i]?=some l->∃p xs,as[i]?=some p/\H p=some (.lst xs)/\aI z.K M H l xs:=by
 induction h with
 |nil=>intro i l e;cases e
 |cons h1 h2 h3 h4 h5 _ ih=>intro i l e;cases i with
  |zero=>cases (show some _=some l from e);exact⟨_,_,rfl,h4,h5⟩
  |succ i=>exact ih (i:=i) e
theorem fO.push(h:fO z As M H as ll)(h1:p∈M)(h2:p∉As)(h3:z.H0 p=none)(h4:H p=some (.lst xs))(h5:aI z.K M H l xs):fO z As M H (as++[p]) (ll++[l]):=by
 induction h with
 |nil=>exact .cons h1 h2 h3 h4 h5 .nil
 |cons a b c d e _ ih=>exact .cons a b c d e ih
theorem fO.write(h:fO z As M H as ll)(nd:as.Nodup)(r:aI z.K M (upd H p (.lst xs')) l' xs')(hp:p∈M):∀{i:Nat},as[i]?=some p->fO z As M (upd H p (.lst xs')) as (ll.set i l'):=by
 induction h with
 |nil=>intro i e;cases e
 |@cons q as xs l ll h1 h2 h3 h4 h5 hr ih=>
  intro i e;obtain⟨nd1,nd2⟩:=hV.mp nd;cases i with
  |zero=>
   cases (show some q=some p from e)
   exact .cons h1 h2 h3 aA r (hr.stay (aq.write hp) λx hx=>⟨(hr.mem x hx).1,az (λe=>nd1 (e▸hx))⟩)
  |succ i=>
   have hq:q≠p:=λe'=>nd1 (by rw[e'];exact kS (show as[i]?=some p from e))
   exact .cons h1 h2 h3 (by rw[az hq];exact h4) (h5.stay (aq.write hp)) (ih nd2 (i:=i) e)
end
def Rows(z:Z)(g:G)(iy:Nat)(M0:List Addr)(H0:Hp)(ll:List (List D))(σ:Sg)(H:Hp):Prop:=
 ∃As M a as,S z g σ As M H/\aq M0 H0 M H/\σ[iy]?=some (some (.ref a))/\a∈M/\a∉As/\z.H0 a=none/\H a=some (.lst (as.map .ref))/\a∉as/\as.Nodup/\fO z As M H as ll
theorem Rows.gJ(h:Rows z g iy M0 H0 ll σ H)(e:g[i]?=some .no)(n:i≠iy):Rows z g iy M0 H0 ll (σ.set i v) H:=by obtain⟨As,M,a,as,s,st,e1,h⟩:=h;exact⟨As,M,a,as,s.gJ e,st,by rw[eM n];exact e1,h⟩
section
variable{iy ix iw:Nat}
theorem zI(hy:X.N[iy]?=some y)(vy:gR X.env.scope y)(dy:(y==("__debug__":Str))=false)(cy:(y==("__classdict__":Str))=false)(hx:X.N[ix]?=some x)(vx:gR X.env.scope x)(dx:(x==("__debug__":Str))=false)(cx:(x==("__classdict__":Str))=false)
  (hw:X.N[iw]?=some w) (vw:gR X.env.scope w) (dw:(w==("__debug__":Str))=false) (cw:(w==("__classdict__":Str))=false) (hline:(bG.endLine==aR.line)=true) :
  ∃t,PS X (.Expr (.Call (.Attribute (.Subscript (.Name y py) (.Name x px) sp) "append" bG) [.Name w pw] [] aR) ep) t/\∀σ H M0 H0 (E:Ends) (ll:List (List D)) (l:List D) (j:Nat) (b:Int),Rows z g iy M0 H0 ll σ H->σ[ix]?=some (some (.int j))->σ[iw]?=some (some (.int b))->ll[j]?=some l->l.length<1000->
   (∀H',Rows z g iy M0 H0 (ll.set j (l++[.int b])) σ H'->E.nx σ H')->t E σ H:=by
 refine⟨_,nD (uL wT A9 Bi iR (N3 sH (bM hy vy dy cy) (bM hx vx dx cx) (λ_ _=>rfl)) (bC (bM hw vw dw cw) dW rfl) rfl rfl hline rfl rfl) rfl,λσ H M0 H0 E ll l j b h ex ew el hl kE=>?_⟩
 obtain⟨As,M,a,as,s,st,e1,hm,hA,h0,ha,na,nd,rl⟩:=h;obtain⟨p,xs,ep,hp,rp⟩:=rl.get el;obtain⟨q1,q2,q3,_⟩:=rl.mem p (kS ep);have hat:fy (as.map V.ref) (j:Int)=some (.ref p):=by
  have hj:j<as.length:=(b0.mp ep).1;unfold L2.fy L2.ql;rw[fN ⋯,fN (by rw[fR];lia)]
  simp only[pE];show (as.map V.ref)[j]?=some (.ref p);rw[oP,ep];rfl
 refine⟨.ref a,e1,.int j,ex,a,as.map .ref,j,.ref p,rfl,rfl,bZ.of ha,hat,.inl ⟨rfl,xs,bZ.of hp⟩,.int b,ew,p,xs,.int b,rfl,rfl,hp,?_,kE _ ?_⟩
 . rw[<- rp.length,nK];lia
 .
  have hap:a≠p:=λe=>na (e▸kS ep)
  refine⟨As,M,a,as,s.xN q1 q2 q3 hp,st.trans (aq.write q1),e1,hm,hA,h0,by rw[az hap];exact ha,na,nd,?_⟩
  exact rl.write nd ((rp.stay (aq.write q1)).append (.cons (.int b) .nil)) q1 ep
end
noncomputable def vC(ll:List (List D)):D->Option (List (List D))
 |.tup [.int a,.int b]=>if 0<=a/\0<=b then match ll[a.toNat]? with
   |some l1=>if l1.length<1000 then match (ll.set a.toNat (l1++[.int b]))[b.toNat]? with
     |some l2=>if l2.length<1000 then some ((ll.set a.toNat (l1++[.int b])).set b.toNat (l2++[.int a]))else none
     |none=>none
    else none
   |none=>none
  else none
 |_=>none
noncomputable def iE:List D->List (List D)->Option (List (List D))
 | [],ll=>some ll
 |d::l,ll=>match vC ll d with |some Oe=>iE l Oe |none=>none
theorem GP(h:vC ll d=some Oe):∃(a b:Nat) (l1 l2:List D),d=.tup [.int a,.int b]/\ll[a]?=some l1/\l1.length<1000/\(ll.set a (l1++[.int b]))[b]?=some l2/\l2.length<1000/\Oe=(ll.set a (l1++[.int b])).set b (l2++[.int a]):=by
 unfold vC at h;split at h
 .
  rename_i a b;split at h
  .
   rename_i h0;obtain⟨a,rfl⟩:∃n:Nat,a=n:=⟨a.toNat,by lia⟩
   obtain⟨b,rfl⟩:∃n:Nat,b=n:=⟨b.toNat,by lia⟩
   simp only[pE]at h;split at h
   .
    rename_i l1 e1;split at h
    .
     rename_i h1;split at h
     .
      rename_i l2 e2;split at h
      . rename_i h2;cases h;exact⟨a,b,l1,l2,rfl,e1,h1,e2,h2,rfl⟩
      . cases h
     . cases h
    . cases h
   . cases h
  . cases h
 . cases h
theorem S.zJ:∀(ps:List Addr) {M:List Addr},S z g σ As M H->(∀p∈ps,p∉As/\z.H0 p=none)->∃M',S z g σ As M' H/\(∀m∈M',m∈M)/\∀p∈ps,p∉M'
 | [],M,s,_=>⟨M,s,λ_ h=>h,λ_ h=>nomatch h⟩
 |p::ps,M,s,h=>by
  obtain⟨h1,h2⟩:=h p dA;obtain⟨M',s',k1,k2⟩:=S.zJ ps (s.drop h2 h1) λq hq=>h q (a9 _ hq)
  refine⟨M',s',λm hm=>(i8.mp (k1 m hm)).1,λq hq=>?_⟩
  rcases d6.mp hq with rfl |hq
  . intro hm;have:=(i8.mp (k1 _ hm)).2;simp at this
  . exact k2 q hq
theorem fO.reps(h:fO z As M H as ll)(hM:∀m∈M',m∈M)(n:∀p∈as,p∉M'):aI z.K M' H (ll.map .lst) (as.map .ref):=by
 induction h with
 |nil=>exact .nil
 |cons _ _ _ h4 h5 _ ih=>exact .cons (.lst ⟨n _ dA,h4⟩ (h5.stay (aq.less hM))) (ih λp hp=>n p (a9 _ hp))
theorem Rows.trans(st:aq M0 H0 M1 H1)(h:Rows z g iy M1 H1 ll σ H):Rows z g iy M0 H0 ll σ H:=by obtain⟨As,M,a,as,s,aK,r⟩:=h;exact⟨As,M,a,as,s,st.trans aK,r⟩
section
variable{iy ia ib it:Nat}
theorem GQ(hp:PassesOwn (model X.prog X.w) X.A X.env X.xe)(hc:X.calm=true)(hK:z.K=X.K)(hy:X.N[iy]?=some y)(vy:gR X.env.scope y)(dy:(y==("__debug__":Str))=false)(cy:(y==("__classdict__":Str))=false)
  (na:oM X a ia) (va:gR X.env.scope a) (da:(a==("__debug__":Str))=false) (ca:(a==("__classdict__":Str))=false) (nb:oM X b ib) (vb:gR X.env.scope b) (db:(b==("__debug__":Str))=false) (cb:(b==("__classdict__":Str))=false)
  (ht:X.N[it]?=some tn) (vt:gR X.env.scope tn) (dt:(tn==("__debug__":Str))=false) (ct:(tn==("__classdict__":Str))=false) (hgt:g[it]?=some (.dat (.tup ao)))
  (hga:g[ia]?=some .no) (ZS:g[ib]?=some .no) (hay:ia≠iy) (hby:ib≠iy) (hab:ia≠ib) (l1:(Og.endLine==Oh.line)=true) (l2:(Oi.endLine==Jr.line)=true)
  {ll0:List (List D)} (hF:iE ao ll0=some Js) :
  ∃t,PS X (.For (.Tuple [.Name a pa,.Name b pb] tk iO) (.Name tn tp) [.Expr (.Call (.Attribute (.Subscript (.Name y y1) (.Name a a1) Vl) "append" Og) [.Name b b1] [] Oh) Vm,.Expr (.Call (.Attribute (.Subscript (.Name y y2) (.Name b b2) Vn) "append" Oi) [.Name a a2] [] Jr) Vo] [] GR) t/\
   ∀M0 H0 σ H (E:Ends),Rows z g iy M0 H0 ll0 σ H->(∀σ' H',Rows z g iy M0 H0 Js σ' H'->E.nx σ' H')->t E σ H:=by
 obtain⟨t1,q1,k1⟩:=zI (z:=z) (g:=g) (py:=y1) (px:=a1) (pw:=b1) (sp:=Vl) (ep:=Vm) hy vy dy cy na.ix va da ca nb.ix vb db cb l1;obtain⟨t2,q2,k2⟩:=zI (z:=z) (g:=g) (py:=y2) (px:=b2) (pw:=a2) (sp:=Vn) (ep:=Vo) hy vy dy cy nb.ix vb db cb na.ix va da ca l2;refine⟨_,DW hp hc (DT (bM ht vt dt ct)) (wK (n:=2) hc (g8 (iQ na.nd na.ix na.lc na.fn) (g8 (iQ nb.nd nb.ix nb.lc nb.fn) su rfl) rfl) rfl rfl) (dQ q1 (yQ q2)) (λ_=>rfl),λM0 H0 σ H E h kE=>?_⟩
 obtain⟨As,M,ay,as,s,st,h⟩:=h;obtain⟨v,ev,rv⟩:=s.sl.y9 hgt;cases rv with
 |@tup _ at' xs ha rr=>
  refine⟨.ref at',ev,at',rfl,⟨xs,hK▸ha.sq⟩,?_⟩;refine⟨λi m σ' H'=>i+m=ao.length/\∃ll,Rows z g iy M H ll σ' H'/\iE (ao.drop i) ll=some Js,⟨ao.length,Bz _,ll0,⟨As,M,ay,as,s,aq.refl _ _,h⟩,hF⟩,?_⟩
  rintro i m σ' H' ⟨W8,ll,hr,hf⟩;obtain⟨bw,M2,ay2,as2,s2,aK,h2⟩:=id hr;have ha2:TupAt z.K M2 H' at' xs:=by
   rcases ha with ⟨n,hq⟩ |hq
   . exact .inl (aK.rd n hq)
   . exact .inr hq
  have Dq:=rr.stay aK;cases e:ao[i]? with
  |none=>
   have hi:i=ao.length:=by have:=l7.mp e;lia
   subst hi;rw[AZ]at hf;cases hf;exact .inl ⟨⟨xs,hK▸ha2.sq,by rw[<- rr.length];exact dS _⟩,kE σ' H' (hr.trans st)⟩
  |some d=>
   rw[drop_cons e]at hf;have hi:i<ao.length:=(b0.mp e).1;obtain⟨xd,e1,e2⟩:=Dq.get e;cases hd:vC ll d with
   |none=>
    have hf:(match vC ll d with |some Oe=>iE (ao.drop (i+1)) Oe |none=>none)=some Js:=hf
    rw[hd]at hf;cases hf
   |some Oe=>
    have hf:(match vC ll d with |some Oe=>iE (ao.drop (i+1)) Oe |none=>none)=some Js:=hf
    rw[hd]at hf;obtain⟨Vp,Vq,r1,r2,rfl,g1,g2,g3,g4,rfl⟩:=GP hd;cases e2 with
    |@tup _ ad ys had X4=>
     cases X4 with
     |cons ra X4=>cases X4 with
      |cons rb X4=>
       cases X4;cases ra;cases rb;refine .inr ⟨⟨xs,.ref ad,hK▸ha2.sq,e1⟩,λAu Av=>∃ll,Rows z g iy M H ll Au Av/\iE (ao.drop (i+1)) ll=some Js,λAu Av hN=>⟨m - 1,by lia,by lia,hN⟩,λx H2 hx=>?_⟩
       obtain⟨rfl,hy'⟩:=hx;have:=hy' xs (hK▸ha2.sq);rw[e1]at this;cases this;refine⟨ad,_,rfl,hK▸had.sq,rfl,_,_,rfl,_,_,rfl,rfl,?_⟩;have aL:σ'.length=g.length:=s2.sl.length.symm;have ila:ia<σ'.length:=by rw[aL];exact (b0.mp hga).1
       have ilb:ib<σ'.length:=by rw[aL];exact (b0.mp ZS).1
       have hr2:=(hr.gJ (v:=some (.int Vp)) hga hay).gJ (v:=some (.int Vq)) ZS hby
       have va':((σ'.set ia (some (V.int Vp))).set ib (some (V.int Vq)))[ia]?=some (some (.int Vp)):=by rw[eM (mP hab),fI ila]
       have vb':((σ'.set ia (some (V.int Vp))).set ib (some (V.int Vq)))[ib]?=some (some (.int Vq)):=by rw[fI (by rw[pV];exact ilb)]
       exact k1 _ _ M H _ ll r1 Vp Vq hr2 va' vb' g1 g2 λH3 hr3=>k2 _ _ M H _ _ r2 Vq Vp hr3 vb' va' g3 g4 λH4 hr4=>⟨_,hr4,hf⟩
end
section
theorem S.X5(s:S z g σ As M H)(τ:Sg):S z (g++List.replicate τ.length .no) (σ++τ) As M H:=by
 have hl:=s.sl.length;have q:=s.sl.append (Slots.XH (K:=z.K) (M:=M) (H:=H) τ);rw[mB]at q;refine⟨q,s.nd,s.sub,λi b l e1 e2=>?_,s.live,s.keep,s.iu,s.m0,s.bm,λp hp=>?_,s.tab,s.tm,s.tt⟩
 .
  rcases t6 i g.length with hi |hi
  . rw[dL hi]at e1;rw[dL ⋯]at e2;exact s.own i b l e1 e2
  . rw[eA hi]at e1;have:=kS e1;rw[vS]at this;cases this.2
 . obtain⟨q1,l',q2⟩:=s.iT p hp;exact⟨by rw[dL (b0.mp q1).1];exact q1,l',by rw[dL (b0.mp q2).1];exact q2⟩
theorem Slots.X6{K:Frag}:∀{n:Nat}{τ:Sg}{A:List Addr},Slots K M H (List.replicate n .no) τ A->A=[]
 | 0,_,_,q=>by cases q;rfl
 |n+1,_,_,q=>by
  rw[oI]at q;cases q with
  |no q=>exact Slots.X6 q
theorem S.X7{τ:Sg}{n:Nat}(s:S z (g++List.replicate n .no) (σ++τ) As M H)(hl:g.length=σ.length)(hz:∀p∈z.lent,p.1<σ.length):S z g σ As M H:=by
 obtain⟨σ1,σ2,A1,A2,h1,h2,h3,h4⟩:=s.sl.split;obtain⟨rfl,rfl⟩:=List.append_inj h1 (hl.symm.trans h3.length);have:=Slots.X6 h4;subst this;rw[mB]at h2;subst h2;refine⟨h3,s.nd,s.sub,λi b l e1 e2=>?_,s.live,s.keep,s.iu,s.m0,s.bm,λp hp=>?_,s.tab,s.tm,s.tt⟩
 . have hi:=(b0.mp e1).1;exact s.own i b l (by rw[dL hi];exact e1) (by rw[dL ⋯];exact e2)
 . obtain⟨c1,l',c2⟩:=s.iT p hp;have zh:=hz p hp;rw[dL zh]at c1;rw[dL ⋯]at c2;exact⟨c1,l',c2⟩
end
section
variable{iy im:Nat}
theorem Cq(hj:j<k)(hN:Names X.N N' scope k)(B:aM X.env.scope scope)(hc:X.calm=true)(hx:∀b:Bk,oM (X.blk N' scope b) x (X.N.length+j))(hgr:Gl X "range")(hmr:X.mg "range"=none)
  (zG:g.length=X.N.length) (hm:X.N[im]?=some mn) (vm:gR X.env.scope mn) (dm:(mn==("__debug__":Str))=false) (cm:(mn==("__classdict__":Str))=false) (hgm:g[im]?=some (.dat (.int m))) (hm1:m<=1000)
  (Aw:X.N.Nodup) (hy:X.N[iy]?=some y) (hl:X.env.scope.names.lookup y=some .local) (ZT:g[iy]?=some .no)
  (hsw:swapsWith (.ListComp (.List [] lp) [⟨.Name x px,.Call (.Name "range" rp) [.Name mn mp] [] Vr,[],0⟩] scope GX) (some (.Name y py)) ap.line X.env=pure true) :
  ∃t,PS X (.Assign [.Name y py] (.ListComp (.List [] lp) [⟨.Name x px,.Call (.Name "range" rp) [.Name mn mp] [] Vr,[],0⟩] scope GX) ap) t/\∀σ As M H (E:Ends),S z g σ As M H->(∀σ' H',Rows z g iy M H (List.replicate m []) σ' H'->E.nx σ' H')->t E σ H:=by
 refine⟨_,yZ (k:=k) B hc hN (qU hgr hmr (bC (bM hm vm dm cm) dW rfl)) (λb=>⟨iQ (hx b).nd (hx b).ix (hx b).lc (hx b).fn,oq,wR dW⟩) Aw hy hl hsw (λ_=>rfl),λσ As M H E s kE=>?_⟩
 obtain⟨v,ev,rv⟩:=s.sl.y9 hgm;cases rv;refine⟨.int m,ev,(m:Int),rfl,by lia,by lia,λD hD=>?_⟩
 have aL:g.length=σ.length:=s.sl.length;have XR:z.H0 D=none:=s.bW hD;have s1:=s.aQ (xs:=[]) hD;rw[pE];refine⟨λi n σ' H'=>i+n=m/\∃Mb as w,S z (g++List.replicate (k+1) .no) σ' As Mb H'/\aq M H Mb H'/\w.length=k/\σ'=σ++(w++[some (.ref D)])/\D∈Mb/\H' D=some (.lst (as.map .ref))/\D∉as/\as.Nodup/\as.length=i/\fO z As Mb H' as (List.replicate i []),⟨m,Bz _,D::M,[],List.replicate k none,?_,aq.aQ hD,gL,rfl,dA,aA,(λh=>nomatch h),qS,rfl,.nil⟩,?_⟩
 . have:=s1.X5 (List.replicate k none++[some (.ref D)]);rw[eR,gL]at this;exact this
 .
  rintro i n σ' H' ⟨hin,Mb,as,w,s2,aK,hw,rfl,ZV,hDH,hDn,nd,hal,rl⟩;have nDA:D∉As:=λh=>s.fresh hD (s.sub D h)
  by_cases hi:i<m
  .
   refine .inr ⟨hi,λσ' H'=>∃Mb as w,S z (g++List.replicate (k+1) .no) σ' As Mb H'/\aq M H Mb H'/\w.length=k/\σ'=σ++(w++[some (.ref D)])/\D∈Mb/\H' D=some (.lst (as.map .ref))/\D∉as/\as.Nodup/\as.length=i+1/\fO z As Mb H' as (List.replicate (i+1) []),λAu Av hN=>⟨n - 1,by lia,by lia,hN⟩,λx' H2 hx' bk _=>?_⟩
   obtain⟨rfl,rfl⟩:=hx';have es:(σ++(w++[some (V.ref D)])).set (X.N.length+j) (some (.int (0+(i:Int))))=σ++(w.set j (some (.int (0+(i:Int))))++[some (V.ref D)]):=by rw[<- zG,aL,sR _ _ (rV _ _),kA,B5 _ _ ⋯]
   have s3:S z (g++List.replicate (k+1) .no) (σ++(w.set j (some (.int (0+(i:Int))))++[some (V.ref D)])) As Mb H2:=by rw[<- es];exact s2.gJ (by rw[<- zG,eA (rV _ _),kA,AI,fN ⋯])
   unfold qT Ei;dsimp only;rw[fN rfl];show qA D (Ws _) ((σ++(w++[some (V.ref D)])).set (X.N.length+j) (some (.int (0+(i:Int))))) H2 _;rw[es];refine⟨Ap _,λp hp=>?_⟩
   have pD:p≠D:=λe=>by rw[e,hDH]at hp;cases hp
   have pas:∀q∈as,q≠p:=λq hq e=>by
    obtain⟨_,_,_,xs,hx⟩:=rl.mem q hq;rw[e,hp]at hx;cases hx
   have hD1:upd H2 p (.lst []) D=some (.lst (as.map .ref)):=by rw[az (mP pD)];exact hDH
   have s4:=s3.aQ (xs:=[]) hp;have s5:=s4.xN (a:=D) (xs':=as.map .ref++[.ref p]) (a9 _ ZV) nDA XR hD1;have dU:aq Mb H2 (p::Mb) (upd H2 p (.lst [])):=aq.aQ hp;have oN:aq (p::Mb) (upd H2 p (.lst [])) (p::Mb) (upd (upd H2 p (.lst [])) D (.lst (as.map .ref++[.ref p]))):=aq.write (a9 _ ZV);refine⟨as.map .ref,hD1,?_,p::Mb,as++[p],_,s5,(aK.trans dU).trans oN,by rw[pV];exact hw,rfl,a9 _ ZV,?_,?_,?_,?_,?_⟩
   . rw[fR,hal,nK];lia
   . rw[aA,tP];rfl
   .
    intro h;rcases AB.mp h with h |h
    . exact hDn h
    . exact pD (fA.mp h).symm
   .
    refine BY.mpr ⟨nd,hV.mpr ⟨by simp,qS⟩,λq hq r hr e=>?_⟩
    rw[fA.mp hr]at e;exact pas q hq e
   . rw[eR,hal];rfl
   .
    have r1:=rl.stay (dU.trans oN) λq hq=>⟨a9 _ (rl.mem q hq).1,by rw[az (show q≠D from λe=>hDn (by rw[<- e];exact hq)),az (pas q hq)]⟩
    rw[show List.replicate (i+1) ([]:List Ev.D)=List.replicate i []++[[]]from List.replicate_succ']
    exact r1.push dA (λh=>s2.fresh hp (s2.sub p h)) (s2.bW hp) (by rw[az pD];exact aA) .nil
  .
   have hi':i=m:=by lia
   subst hi';refine .inl ⟨dS _,?_⟩;have s3:=s2.X7 aL λp hp=>(b0.mp (s.iT p hp).1).1
   have hly:iy<σ.length:=by rw[<- aL];exact (b0.mp ZT).1
   exact kE _ _ ⟨As,Mb,D,as,s3.gJ ZT,aK,fI hly,ZV,nDA,XR,hDH,hDn,nd,rl⟩
end
section
variable{iy im ia ib it:Nat}
theorem xX(hp:PassesOwn (model X.prog X.w) X.A X.env X.xe)(hK:z.K=X.K)(hj:j<k)(hN:Names X.N N' scope k)(B:aM X.env.scope scope)(hc:X.calm=true)(hx:∀b:Bk,oM (X.blk N' scope b) x (X.N.length+j))(hgr:Gl X "range")(hmr:X.mg "range"=none)
  (hm:X.N[im]?=some mn) (vm:gR X.env.scope mn) (dm:(mn==("__debug__":Str))=false) (cm:(mn==("__classdict__":Str))=false) (hgm:g[im]?=some (.dat (.int m))) (hm1:m<=1000)
  (Aw:X.N.Nodup) (hy:X.N[iy]?=some y) (hl:X.env.scope.names.lookup y=some .local) (dy:(y==("__debug__":Str))=false) (cy:(y==("__classdict__":Str))=false) (ZT:g[iy]?=some .no)
  (hsw:swapsWith (.ListComp (.List [] lp) [⟨.Name x px,.Call (.Name "range" rp) [.Name mn mp] [] Vr,[],0⟩] scope GX) (some (.Name y py)) ap.line X.env=pure true)
  (na:oM X a ia) (va:gR X.env.scope a) (da:(a==("__debug__":Str))=false) (ca:(a==("__classdict__":Str))=false) (nb:oM X b ib) (vb:gR X.env.scope b) (db:(b==("__debug__":Str))=false) (cb:(b==("__classdict__":Str))=false)
  (ht:X.N[it]?=some tn) (vt:gR X.env.scope tn) (dt:(tn==("__debug__":Str))=false) (ct:(tn==("__classdict__":Str))=false) (hgt:g[it]?=some (.dat (.tup ao)))
  (hga:g[ia]?=some .no) (ZS:g[ib]?=some .no) (hay:ia≠iy) (hby:ib≠iy) (hab:ia≠ib) (l1:(Og.endLine==Oh.line)=true) (l2:(Oi.endLine==Jr.line)=true) (hF:iE ao (List.replicate m [])=some Js) :
  nk X z [.Assign [.Name y py] (.ListComp (.List [] lp) [⟨.Name x px,.Call (.Name "range" rp) [.Name mn mp] [] Vr,[],0⟩] scope GX) ap,.For (.Tuple [.Name a pa,.Name b pb] tk iO) (.Name tn tp) [.Expr (.Call (.Attribute (.Subscript (.Name y y1) (.Name a a1) Vl) "append" Og) [.Name b b1] [] Oh) Vm,.Expr (.Call (.Attribute (.Subscript (.Name y y2) (.Name b b2) Vn) "append" Oi) [.Name a a2] [] Jr) Vo] [] GR,.Return (some (.Name y yr)) rpos] g (.rt (.dat (.lst (Js.map .lst)))) g:=by
 have vy:gR X.env.scope y:=.inl hl;by_cases zG:g.length=X.N.length
 .
  obtain⟨t1,q1,k1⟩:=Cq (z:=z) hj hN B hc hx hgr hmr zG hm vm dm cm hgm hm1 Aw hy hl ZT hsw;have q3:PS X (.Return (some (.Name y yr)) rpos) _:=sr (bM hy vy dy cy);have fin:∀M H (E:Ends) σ' H',j5 z M H E g (.rt (.dat (.lst (Js.map .lst))))->Rows z g iy M H Js σ' H'->Pn iy σ' H' E.rt:=λM H E σ' H' kE h=>by
   obtain⟨As,M2,ay,as,s,st,e1,hm,hA,h0,ha,nay,nd,rl⟩:=h;obtain⟨M3,s3,k3,k4⟩:=S.zJ (ay::as) s λp hp=>by
    rcases d6.mp hp with rfl |hp
    . exact⟨hA,h0⟩
    . exact⟨(rl.mem p hp).2.1,(rl.mem p hp).2.2.1⟩
   exact⟨.ref ay,e1,kE _ σ' As M3 H' s3 (st.trans (aq.less k3)) (.lst ⟨k4 _ dA,ha⟩ (rl.reps k3 λp hp=>k4 p (a9 _ hp)))⟩
  have mid:∃t,PS X (.For (.Tuple [.Name a pa,.Name b pb] tk iO) (.Name tn tp) [.Expr (.Call (.Attribute (.Subscript (.Name y y1) (.Name a a1) Vl) "append" Og) [.Name b b1] [] Oh) Vm,.Expr (.Call (.Attribute (.Subscript (.Name y y2) (.Name b b2) Vn) "append" Oi) [.Name a a2] [] Jr) Vo] [] GR) t/\
   ∀M0 H0 σ H (E:Ends),Rows z g iy M0 H0 (List.replicate m []) σ H->(∀σ' H',Rows z g iy M0 H0 Js σ' H'->E.nx σ' H')->t E σ H:=GQ hp hc hK hy vy dy cy na va da ca nb vb db cb ht vt dt ct hgt hga ZS hay hby hab l1 l2 hF
  obtain⟨t2,q2,k2⟩:=mid;refine⟨[t1,t2,_],.cons q1 (.cons q2 (.cons q3 .nil)),λu σ As M H E s kE=>?_⟩
  exact k1 σ As M H _ s λσ' H' h'=>k2 M H σ' H' _ h' λσ2 H2 h2=>fin M H _ σ2 H2 kE h2
 .
  have no:∀st:Stmt,PS X st (λ_ σ _=>σ.length≠X.N.length):=λst ah s σ H D I h=>absurd I.len h
  exact⟨[_,_,_],.cons (no _) (.cons (no _) (.cons (no _) .nil)),λu σ As M H E s kE=>λe=>zG (s.sl.length.trans e)⟩
end
noncomputable def gF{α:Type}(l:List α)(i:Nat):List α:=(List.range ((l.length - i+1) / 2)).filterMap λm=>l[i+m * 2]?
theorem iV{α β:Type}{R:α->β->Prop}{P:List α->List β->Prop}(nil:P [] [])(cons:∀a b l m,R a b->P l m->P (a::l) (b::m)){l:List α}{m:List β}
  (h:∀j:Nat,(l[j]?=none/\m[j]?=none)\/∃a b,l[j]?=some a/\m[j]?=some b/\R a b) (f:Nat->Nat):∀js:List Nat,P (js.filterMap λj=>l[f j]?) (js.filterMap λj=>m[f j]?)
 | []=>nil
 |j::js=>by
  rcases h (f j)with ⟨e1,e2⟩ |⟨a,b,e1,e2,r⟩
  . simp only[l8,e1,e2];exact iV nil cons h f js
  . simp only[l8,e1,e2];exact cons _ _ _ _ r (iV nil cons h f js)
theorem GZ{xs:List V}{us:List Value}(r:Vals xs us)(i:Nat):Vals (gF xs i) (gF us i):=by
 unfold gF;rw[r.length];refine iV (R:=RelV) (P:=Vals) .nil (λ_ _ _ _ a b=>.cons a b) (λj=>?_) (λm=>i+m * 2) _
 cases e:xs[j]? with
 |none=>exact .inl ⟨rfl,r.none_of e⟩
 |some x=>obtain⟨u,e1,e2⟩:=r.get e;exact .inr ⟨x,u,rfl,e1,e2⟩
theorem G0{K:Frag}{M:List Addr}{H:Hp}{ds:List D}{vs:List V}(r:aI K M H ds vs)(i:Nat):aI K M H (gF ds i) (gF vs i):=by
 unfold gF;rw[r.length];refine iV (R:=Rep K M H) (P:=aI K M H) .nil (λ_ _ _ _ a b=>.cons a b) (λj=>?_) (λm=>i+m * 2) _
 cases e:ds[j]? with
 |none=>exact .inl ⟨rfl,by have h:=l7.mp e;rw[r.length]at h;exact l7.mpr h⟩
 |some x=>obtain⟨u,e1,e2⟩:=r.get e;exact .inr ⟨x,u,rfl,e1,e2⟩
theorem zK{α:Type}(l:List α)(i:Nat):(gF l i).length<=l.length:=by unfold gF;refine i5 (List.length_filterMap_le _ _) ?_;rw[List.length_range];lia
end Ev
namespace HT
open PySem PyProof.Rows
section
variable{prog:Program}{w:World}{A:Around}{E:Value->Shared->Prop}{s:Shared}
theorem xY(i n:Nat):Builtin.Slice.sliceAdjust (some (i:Int)) none 2 (n:Int)=(((min i n:Nat):Int),(n:Int)):=by
 unfold Builtin.Slice.sliceAdjust;simp only[show ¬ (2:Int)<0 by decide,CD,show ¬ (i:Int)<0 by lia]
 congr 1
 lia
theorem xZ(i n:Nat):Builtin.Slice.slicePlaces ((min i n:Nat):Int) (n:Int) 2=(n - i+1) / 2:=by unfold Builtin.Slice.slicePlaces;rw[fN ⋯];split <;> lia
theorem lI{sl:Addr}{vl vs:Value}{i n:Nat}{Q:Int×Int×Nat->Shared->Prop}(hs:s.heap.IsSliceOf sl vl .none vs)(pl:IsPart vl (some (i:Int)))(ps:IsPart vs (some 2))
  (h:Q (((min i n:Nat):Int),2,(n - i+1) / 2) s):wpAny (model prog w) A (Builtin.Slice.sliceApplied (.ref sl) (pure (n:Int))) Q E s:=by
 obtain⟨os,hos,hcs,hds⟩:=id hs;unfold Builtin.Slice.sliceApplied Builtin.Slice.sliceFields;refine aS (aS (mI hos hds (x:=vl) rfl (aS (mI hos hds (x:=.none) rfl (aS (mI hos hds (x:=vs) rfl (dE ?_)))))));refine aS (gB ps ?_);show wpAny _ _ (if ((2:Int)==0)=true then _ else _) _ _ s
 rw[gN ⋯];refine aS (gB pl (aS (slicePart_none (aS (dE ?_)))));show wpAny _ _ (match Builtin.Slice.sliceAdjust (some (i:Int)) none 2 (n:Int)with | (lo,hi)=>pure (lo,(2:Int),Builtin.Slice.slicePlaces lo hi 2)) _ _ s
 rw[xY];show wpAny _ _ (pure (((min i n:Nat):Int),(2:Int),Builtin.Slice.slicePlaces ((min i n:Nat):Int) (n:Int) 2)) _ _ s;rw[xZ];exact dE h
theorem G3(xs:Array Value)(i:Nat):((List.range ((xs.size - i+1) / 2)).filterMap λ(m:Nat)=>xs[(((min i xs.size:Nat):Int)+(m:Int) * 2).toNat]?).toArray=(Ev.gF xs.toList i).toArray:=by
 unfold Ev.gF;rw[nE];by_cases hi:i<=xs.size
 .
  rw[Nat.min_eq_left hi]
  congr 1
  congr 1
  funext m
  rw[B0]
  congr 1
 .
  rw[show (xs.size - i+1) / 2=0 by lia]
  rfl
theorem j9{t sl:Addr}{aj:Array Value}{vl vs:Value}{i:Nat}{Q:Value->Shared->Prop}(ht:IsTup s.heap t aj)(hs:s.heap.IsSliceOf sl vl .none vs)(pl:IsPart vl (some (i:Int)))(ps:IsPart vs (some 2))
  (h:Q (.ref s⁻¹) { s with heap:=s.heap.push { cls:=.type "tuple",data:=.seq (Ev.gF aj.toList i).toArray}})
  (jk:aj.size<=sizeLine):wpAny (model prog w) A (getItem (.ref t) (.ref sl)) Q E s:=by
 have jX:sizeOk (.seq (Ev.gF aj.toList i).toArray):=by show (Ev.gF aj.toList i).toArray.size<=sizeLine;rw[dC];exact i5 (Ev.zK _ _) (by rw[nE];exact jk)
 obtain⟨os,hos,hcs,hds⟩:=id hs;have Ww:s.TypeIs (.ref sl) "slice" :=⟨os,hos,hcs⟩;unfold getItem
 try with_reducible refine mM ?_
 first |refine aS (dE ?_) |skip
 refine aS (wpAny_sequenceKey ht.typeIs ⋯ ?_);refine aS (o6 (name:=Str.ofString "__getitem__") ht.typeIs nV
  (tS nV ht.typeIs entry_tuple_getitem ?_ (args_tuple_getitem _ _)))
 show wpAny _ _ (Builtin.Tuple.tupleItemsOf (.ref t) >>= _) _ _ s;refine aS (tupleItemsOf_ ht ?_);refine aS (CF Ww ?_);rw[fN ⋯];refine aS (lI hs pl ps ?_);show wpAny _ _ (if (((min i aj.size:Nat):Int)==0&&(2:Int)==1&&(aj.size - i+1) / 2==aj.size)=true then _ else _) _ _ s
 rw[gN (by intro q;rw[eC,eC]at q;exact absurd (eq_of_beq q.1.2) ⋯),G3]
 first
  |exact aS (m:=Builtin.Tuple.tupleExact _) (n0 (dE ⟨_,rfl,dE h⟩) jX)
  |exact aS (m:=Builtin.Tuple.tupleExact _) (n0 (aS (dE (dE ⟨_,rfl,dE h⟩))) jX)
  |exact aS (aS (m:=Builtin.Tuple.tupleExact _) (n0 (dE (dE ⟨_,rfl,dE h⟩)) jX))
  |exact aS (aS (m:=Builtin.Tuple.tupleExact _) (n0 (dE ⟨_,rfl,dE h⟩) jX))
end
end HT
namespace Ev
open L2
section
variable{X:Cx}{z:Z}{g g1 g2:G}{a b:Expr}{p1 p2 pos:Pos}{j:Nat}
theorem R5{te tb:TE}(he:PE X a te)(hb:PE X b tb):PE X (.Subscript a (.Slice (some b) none (some (.Constant (.int 2) j p1)) p2) pos)
  (λσ H Q=>te σ H λx H1=>tb σ H1 λy H2=>∃c xs i,x=.ref c/\y=.int (i:Nat)/\g7 X.K H2 c xs/\∀p,H2 p=none->Q (.ref p) (upd H2 p (.tup (gF xs i)))):=by
 intro ah s σ H Q I h;refine Subscript_ (bL (he ah s σ H _ I h) λv s1 ⟨x,H1,I1,r1,q1⟩=>?_)
 refine wpAny_Slice (PySem.evalPart_some_step (bL (hb ah s1 σ H1 _ I1 q1) λvl s2 ⟨y,H2,I2,r2,q2⟩=>?_))
 rw[evalPart_none];refine dE ?_;refine PySem.evalPart_some_step (bL (DN (i:=2) (j:=j) (pos:=p1) ah s2 σ H2 (λv H'=>v=.int 2/\H'=H2) I2 ⟨rfl,rfl⟩) λu s3 ⟨w,H3,I3,r3,e1,e2⟩=>?_)
 subst e1 e2;obtain⟨t3,rfl⟩:=r3;obtain⟨c,xs,i,rfl,rfl,hx,hq⟩:=q2;obtain⟨t2,rfl⟩:=r2;cases r1;have I4:L2.Inv X ah σ H3 { s3 with heap:=s3.heap.push { cls:=.type "slice",data:=.fields #[.int (i:Nat) t2,.none,.int 2 t3]}}:=I3.kept (t':=s3.toks) λb ob q=>bP _ q
 obtain⟨its,r,ht,hz⟩:=I4.tuple hx;have aL:=r.length;show wpAny (model X.prog X.w) X.A (subscriptTail a (.Slice (some b) none (some (.Constant (.int 2) j p1)) p2) (.ref c) (.ref s3⁻¹)) (EP X ah σ Q) X.xe { s3 with heap:=s3.heap.push { cls:=.type "slice",data:=.fields #[.int (i:Nat) t2,.none,.int 2 t3]}};refine tail_any (ops:=[.ref c,.ref s3⁻¹]) ht.typeIs PyProof.Rows.slot_tuple_getitem.lookup ?_ (by with_unfolding_all rfl)
 refine HT.j9 ht (Heap.IsSliceOf.new ..) (.int _ t2) (.int _ t3) ?_ (by rw[dC,<- aL];exact hz)
 refine⟨.ref _,_,I4.laid (t':=s3.toks) (o:=.tup (gF xs i)) (λb ob q=>bP _ q) (dS _) ?_,rfl,hq _ (I4.hok.fresh (dS _))⟩
 exact⟨i5 (zK _ _) hz,gF its i,GZ r i,fJ.new _ _⟩
theorem R8{l:List D}{i:Nat}(hK:z.K=X.K)(h:aD X z a g (.dat (.tup l)) g1)(hb:aD X z b g1 (.dat (.int i)) g2):aD X z (.Subscript a (.Slice (some b) none (some (.Constant (.int 2) j p1)) p2) pos) g (.dat (.tup (gF l i))) g2:=by
 obtain⟨t,q,k⟩:=h;obtain⟨t2,q2,k2⟩:=hb;refine⟨_,R5 q q2,λσ As M H Q s kk=>k σ As M H _ s λv H1 aO M1 s1 cI R=>k2 σ aO M1 H1 _ s1 λy H2 bw M2 s2 aK R2=>?_⟩
 have R':=Rep.stay aK (show Rep z.K M1 H1 (.tup l) v from R)
 cases R' with
 |@tup _ c xs e1 e2=>
  cases R2 with
  |int _=>exact⟨c,xs,i,rfl,rfl,hK▸e1.sq,λp hp=>kk _ _ bw M2 (s2.laid hp) ((cI.trans aK).trans (aq.laid hp)) (.tup (.inl ⟨s2.fresh hp,.inl aA⟩) ((G0 e2 i).stay (aq.laid hp)))⟩
end
inductive Bl where
 |len |list |tuple |max |min |str |all |sorted |sum
 deriving DecidableEq
set_option genInjectivity false in
inductive Ex where
 |val (d:D) |slot (i:Nat)
 |bin (op:Operator) (a b:Ex) |cmp (op:CmpOp) (a b:Ex) |chain (a:Ex) (ops:List CmpOp) (l:List Ex)
 |neg (a:Ex) |not (a:Ex) |and (l:List Ex) |or (l:List Ex) |ite (c a b:Ex)
 |tup (l:List Ex) |lst (l:List Ex)
 |ix (a b:Ex) |slice (a:Ex) (lo hi:Option Ex)
 |call (f:Nat) (l:List Ex) |blt (b:Bl) (l:List Ex) |rH (a:Ex) (n:String) |qI (a:Ex) (ns:List String)
 |comp (n k:Nat) (T:Tg) (it:Ex) (c:Option Ex) (e:Ex)
 |cz (n k:Nat) (T1:Tg) (nq:Ex) (c1:Option Ex) (T:Tg) (it:Ex) (c:Option Ex) (e:Ex)
 |cR (a:Ex) |gW (a b:Ex) |eW (a:Ex)
 |pB (a b c:Ex) |enum (a:Ex) |zip (a b:Ex)
 |gF (a b:Ex) |emp |stk |peek (e:Ex)
 |gG (f ir:Nat) (ca:List Addr) (e:Ex) |rJ (a:Ex) (l:List (Addr×Bool)) |refs (f ir:Nat) (ca:List Addr) (es:List Ex)
 |append (i:Nat) (e:Ex) |extend (i:Nat) (e:Ex) |iF (i:Nat) (e:Ex)
set_option genInjectivity false in
inductive Sm where
 |ret (e:Ex) |expr (e:Ex) |set (i:Nat) (e:Ex) |setC (i:Nat) (e:Ex) |tgt (T:Tg) (e:Ex) |item (i:Nat) (j e:Ex)
 |items2 (i:Nat) (x:Ex) (j:Nat) (y:Ex) (e:Ex)
 |ite (c:Ex) (a b:List Sm) |loop (T:Tg) (it:Ex) (b:List Sm) |while (c:Ex) (b:List Sm) |raise (ci:Nat) (e:Ex) |calls (ic:Nat) (x:Ex) (op:CmpOp) (rhs:Ex) (ret:Bool) (b:List Sm) |rows (im it iy ia ib:Nat) |stuck
structure Fx where
 np:Nat
 n:Nat
 body:List Sm
def Tg.gH:Tg->Bool
 |.tp _=>true
 |.nm _=>false
noncomputable def Lp(i j:Int):Bool:=(decide (-(2 ^ 64)<i)&&decide (i<2 ^ 64))||(decide (-(2 ^ 64)<j)&&decide (j<2 ^ 64))
def lim:Nat:=16777216
noncomputable def lJ{α:Type}(f:Int->Int->Option α)(a b:D):Option α:=match a with
 |.int i=>(match b with |.int j=>f i j |_=>none)
 |_=>none
noncomputable def G4(a b:D):Option R:=match a with
 |.int i=>(match b with |.int j=>some (.dat (.int (i+j))) |_=>none)
 |.lst l=>(match b with |.lst m=>if l.length+m.length<=lim then some (.new (l++m))else none |_=>none)
 |.tup l=>(match b with |.tup m=>if l.length+m.length<=lim then some (.dat (.tup (l++m)))else none |_=>none)
 |_=>none
def Lq(a:D)(k:Int):Option R:=match a with
 |.int i=>if Lp i k=true then some (.dat (.int (i * k)))else none
 |.lst l=>if -(2 ^ 63)<=k/\k<2 ^ 63/\l.length * k.toNat<=lim then some (.new (List.replicate k.toNat l).flatten)else none
 |_=>none
def vD(op:Operator)(a b:D):Option R:=match op with
 |.Add=>G4 a b
 |.Sub=>lJ (λi j=>some (.dat (.int (i - j)))) a b
 |.Mult=>(match b with |.int k=>Lq a k |_=>none)
 |.FloorDiv=>lJ (λi j=>if 0<j/\j<1073741824 then some (.dat (.int (i / j)))else none) a b
 |.Mod=>lJ (λi j=>if 0<j then some (.dat (.int (i % j)))else none) a b
 |.Pow=>lJ (λi j=>if 0<=j/\j<=1000/\i.natAbs<2 ^ 64 then some (.dat (.int (i ^ j.toNat)))else none) a b
 |_=>none
def fP(d1 d2:D):Bool:=gZ d1&&gZ d2&&decide (dep d1<=190)
def nu(d1:D)(l:List D):Bool:=gZ d1&&jc l&&decide (deps l<=190)
def ltF(a b:D):Option Bool:=match a with
 |.int i=>(match b with |.int j=>some (decide (i<j)) |_=>none)
 |.tup l=>(match b with |.tup m=>(match cJ l with |some ns=>(match cJ m with |some ms=>some (HT.lexLt ns ms) |none=>none) |none=>none) |_=>none)
 |_=>none
def ez(op:CmpOp)(d1 d2:D):Option Bool:=match op with
 |.Eq=>if fP d1 d2=true then some (bO d1 d2)else none
 |.NotEq=>if fP d1 d2=true then some (!bO d1 d2)else none
 |.Lt=>ltF d1 d2
 |.LtE=>lJ (λi j=>some (decide (i<=j))) d1 d2
 |.Gt=>lJ (λi j=>some (decide (i > j))) d1 d2
 |.GtE=>lJ (λi j=>some (decide (i ≥ j))) d1 d2
 |.In=>(match cW d2 with |some l=>if nu d1 l=true then some (l.any λd=>bO d d1)else none |none=>none)
 |.NotIn=>(match cW d2 with |some l=>if nu d1 l=true then some (!l.any λd=>bO d d1)else none |none=>none)
 |_=>none
def vE:D->D->Option D
 |.lst l,.int i=>fy l i
 |.fix l,.int i=>fy l i
 |.tup l,.int i=>fy l i
 |_,_=>none
def R9(b:Bl)(d:D):Option R:=match b with
 |.len=>(match W4 d with |some n=>some (.dat (.int n)) |none=>none)
 |.list=>(match cW d with |some l=>some (.new l) |none=>none)
 |.tuple=>(match cW d with |some l=>some (.dat (.tup l)) |none=>none)
 |.all=>(match d with |.lst l=>(match uQ l with |some bs=>some (.dat (.bl (bs.all id))) |none=>none) |_=>none)
 |.sorted=>(match cW d with |some l=>(match cJ l with |some ns=>if ns.length<64 then some (.new ((cZ ns).map .int))else none |none=>match iC l with |some dO=>if dO.length<64 then some (.new ((bK dF dO).map λns=>.tup (ns.map .int)))else none |none=>none) |none=>none)
 |_=>none
def bl2(b:Bl)(d e:D):Option R:=match b with
 |.max=>lJ (λi j=>some (.dat (.int (if j > i then j else i)))) d e
 |.min=>lJ (λi j=>some (.dat (.int (if j<i then j else i)))) d e
 |_=>none
def pC(b:Bl)(ds:List D):Option R:=match ds with
 | [d]=>R9 b d
 | [d,e]=>bl2 b d e
 |_=>none
noncomputable def fX(t n:String):Bool:=t==n||(t == "bool" && n == "int")
structure Rn where
 e:List Nat->Nat->Ex->G->Option (R×G)
 t:List Nat->Nat->Ex->G->Option (Bool×G)
 b:List Nat->Nat->List Sm->G->Option (Fl×G)
 x:List Nat->Nat->Ex->G->Option (Nat×G)
 xt:List Nat->Nat->Ex->G->Option (Nat×G)
 xb:List Nat->Nat->List Sm->G->Option (Nat×G)
noncomputable def toD(bor:List Nat):R->G->Option (D×G)
 |.dat d,g=>some (d,g)
 |.new l,g=>some (.lst l,g)
 |.var i,g=>if i∈bor then none else match g[i]? with |some (.own l)=>some (.lst l,g.set i (.dat (.lst l))) |_=>none
noncomputable def norm:R->R
 |.new l=>.dat (.lst l)
 |.dat d=>.dat d
 |.var i=>.var i
section
variable(rn:Rn)(bor:List Nat)(k:Nat)
noncomputable def eX(e:Ex)(g:G):Option (D×G):=match rn.e bor k e g with
 |some (r,g1)=>toD bor r g1
 |none=>none
noncomputable def pF:List Ex->G->Option (List D×G)
 | [],g=>some ([],g)
 |e::es,g=>match eX rn bor k e g with
  |some (d,g1)=>match pF es g1 with
   |some (ds,g2)=>some (d::ds,g2)
   |none=>none
  |none=>none
def argsR:List Ex->G->Option (List R×G)
 | [],g=>some ([],g)
 |e::es,g=>match rn.e bor k e g with
  |some (r,g1)=>match argsR es g1 with
   |some (rs,g2)=>some (norm r::rs,g2)
   |none=>none
  |none=>none
def Du:D->List CmpOp->List Ex->G->Option (Bool×G)
 |d1,[op],[b],g=>match eX rn bor k b g with
  |some (d2,g1)=>match ez op d1 d2 with |some c=>some (c,g1) |none=>none
  |none=>none
 |d1,op::op'::ops,b::b'::bs,g=>match eX rn bor k b g with
  |some (d2,g1)=>match ez op d1 d2 with
   |some true=>Du d2 (op'::ops) (b'::bs) g1
   |some false=>some (false,g1)
   |none=>none
  |none=>none
 |_,_,_,_=>none
noncomputable def G5:List Ex->G->Option (R×G)
 | [],_=>none
 | [a],g=>rn.e bor k a g
 |a::b::l,g=>match rn.e bor k a g with
  |some (.dat (.bl true),g1)=>G5 (b::l) g1
  |some (.dat (.bl false),g1)=>some (.dat (.bl false),g1)
  |_=>none
noncomputable def X8:List Ex->G->Option (R×G)
 | [],_=>none
 | [a],g=>rn.e bor k a g
 |a::b::l,g=>match rn.e bor k a g with
  |some (.dat (.bl false),g1)=>X8 (b::l) g1
  |some (.dat (.bl true),g1)=>some (.dat (.bl true),g1)
  |_=>none
noncomputable def vF:List Ex->G->Option (Bool×G)
 | [],_=>none
 | [a],g=>rn.t bor k a g
 |a::b::l,g=>match rn.t bor k a g with
  |some (true,g1)=>vF (b::l) g1
  |some (false,g1)=>some (false,g1)
  |none=>none
noncomputable def G6:List Ex->G->Option (Bool×G)
 | [],_=>none
 | [a],g=>rn.t bor k a g
 |a::b::l,g=>match rn.t bor k a g with
  |some (false,g1)=>G6 (b::l) g1
  |some (true,g1)=>some (true,g1)
  |none=>none
noncomputable def G7:Option Ex->G->Option (Option Int×G)
 |none,g=>some (none,g)
 |some e,g=>match eX rn bor k e g with
  |some (.int i,g1)=>some (some i,g1)
  |_=>none
noncomputable def Lr(j:Int):Bool:=decide (-(2 ^ 62)<=j)&&decide (j<2 ^ 62)
def vG(j:Int):Bool:=decide (-(2 ^ 30)<=j)&&decide (j<2 ^ 30)
def eE(tp:Bool)(it:Ex)(g:G):Option (List D×G):=match it with
 |.cR a=>match eX rn bor k a g with
  |some (.int j,g1)=>if Lr j=true then some (cL 0 j.toNat,g1)else none
  |_=>none
 |.gW a b=>match eX rn bor k a g with
  |some (.int c,g1)=>match eX rn bor k b g1 with
   |some (.int j,g2)=>if Lr c=true/\Lr j=true then some (cL c (j - c).toNat,g2)else none
   |_=>none
  |_=>none
 |.pB a b c=>match eX rn bor k a g with
  |some (.int i,g1)=>match eX rn bor k b g1 with
   |some (.int j,g2)=>match eX rn bor k c g2 with
    |some (.int s,g3)=>if vG i=true/\vG j=true/\vG s=true/\0<s then some (qF i s (lE i j s),g3)else none
    |_=>none
   |_=>none
  |_=>none
 |.zip a b=>if tp=true then match pF rn bor k [a,b] g with
  |some ([d1,d2],g1)=>match cW d1,cW d2 with |some l,some m=>if isTup d1=isTup d2 then some (sX l m,g1)else none |_,_=>none
  |_=>none
  else none
 |.enum a=>if tp=true then match eX rn bor k a g with
  |some (d,g1)=>match cW d with |some l=>some (mO l,g1) |none=>none
  |none=>none
  else none
 |e=>match eX rn bor k e g with
  |some (.tup l,g1)=>some (l,g1)
  |some (.lst l,g1)=>some (l,g1)
  |some (.fix l,g1)=>some (l,g1)
  |_=>none
noncomputable def qo:Option Ex->G->Option (Bool×G)
 |none,g=>some (true,g)
 |some c,g=>rn.t bor k c g
def x8(T:Tg)(last:Nat)(c:Option Ex)(e:Ex):List D->G->Option G
 | [],g=>some g
 |d::l,g=>match T.set d g with
  |none=>none
  |some g1=>match qo rn bor k c g1 with
   |none=>none
   |some (false,g2)=>x8 T last c e l g2
   |some (true,g2)=>match eX rn bor k e g2 with
    |none=>none
    |some (x,g3)=>match g3[last]? with
     |some (.own acc)=>if acc.length<lim then x8 T last c e l (g3.set last (.own (acc++[x])))else none
     |_=>none
def fY(n kk:Nat)(T:Tg)(it:Ex)(c:Option Ex)(e:Ex)(g:G):Option (List D×G):=match eE rn bor k T.gH it g with
 |none=>none
 |some (aj,g1)=>if g1.length=n/\(T.ix.any λi=>decide (i∈bor))=false then match x8 rn bor k T (n+kk) c e aj (gC kk g1)with
   |none=>none
   |some gE=>match gE[n+kk]? with
    |some (.own acc)=>some (acc,gE.take n)
    |_=>none
  else none
def vH(T1:Tg)(c1:Option Ex)(T:Tg)(it:Ex)(c:Option Ex)(e:Ex)(last:Nat):List D->G->Option G
 | [],g=>some g
 |d::l,g=>match T1.set d g with
  |none=>none
  |some g1=>match qo rn bor k c1 g1 with
   |none=>none
   |some (false,g2)=>vH T1 c1 T it c e last l g2
   |some (true,g2)=>match eE rn bor k T.gH it g2 with
    |none=>none
    |some (aj,g3)=>match x8 rn bor k T last c e aj g3 with
     |none=>none
     |some g4=>vH T1 c1 T it c e last l g4
def lK(n kk:Nat)(T1:Tg)(nq:Ex)(c1:Option Ex)(T:Tg)(it:Ex)(c:Option Ex)(e:Ex)(g:G):Option (List D×G):=match eE rn bor k T1.gH nq g with
 |none=>none
 |some (aj,g1)=>if g1.length=n/\((T1.ix++T.ix).any λi=>decide (i∈bor))=false then match vH rn bor k T1 c1 T it c e (n+kk) aj (gC kk g1)with
   |none=>none
   |some gE=>match gE[n+kk]? with
    |some (.own acc)=>some (acc,gE.take n)
    |_=>none
  else none
def aU(fx:Fx)(k':Nat)(rs:List R)(g1:G):Option (R×G):=
 if rs.length=fx.np/\((vars 0 rs).map (·.2)).Nodup then match cu rs g1 with
  |none=>none
  |some gs=>match rn.b ((vars 0 rs).map (·.1)) k' fx.body (dz fx.n gs)with
   |some (.rt r,gc)=>match back (vars 0 rs) gc g1 with
    |some gO=>match dj ((vars 0 rs).map (·.1)) gc r with |some r'=>some (r',gO) |none=>none
    |none=>none
   |some (.nx,gc)=>match back (vars 0 rs) gc g1 with
    |some gO=>some (.dat .non,gO)
    |none=>none
   |_=>none
 else none
def Se(fns:List Fx)(f ir:Nat)(ca:List Addr)(e:Ex)(g:G):Option D:=match fns[f]?,k with
 |some fx,k'+2=>match rn.x [] k' e (g.map noOwn)with
  |some (ci,_)=>match ca[ci]? with
   |some C=>match rn.b [] k' (fx.body.drop 2) ((List.replicate fx.n .no).set ir (.dat (.mz C)))with
    |some (.rt r,g3)=>match dj [] g3 r with |some r'=>asD r' |none=>none
    |_=>none
   |none=>none
  |none=>none
 |_,_=>none
def zL(fns:List Fx)(f ir:Nat)(ca:List Addr):List Ex->G->Option (List D)
 | [],_=>some []
 |e::es,g=>match Se rn k fns f ir ca e g with
  |some d=>match zL fns f ir ca es g with |some ds=>some (d::ds) |none=>none
  |none=>none
def aV(fns:List Fx)(e:Ex)(g:G):Option (R×G):=match e with
 |.val d=>some (.dat d,g)
 |.slot i=>match g[i]? with |some (.dat d)=>some (.dat d,g) |some (.own _)=>some (.var i,g) |_=>none
 |.bin op a b=>match argsR rn bor k [a,b] g with
  |some ([r1,r2],g2)=>match pk r1 g2,pk r2 g2 with
   |some d1,some d2=>match vD op d1 d2 with |some r=>some (r,g2) |none=>none
   |_,_=>none
  |_=>none
 |.cmp op a b=>match argsR rn bor k [a,b] g with
  |some ([r1,r2],g2)=>match pk r1 g2,pk r2 g2 with
   |some d1,some d2=>match ez op d1 d2 with |some c=>some (.dat (.bl c),g2) |none=>none
   |_,_=>none
  |_=>none
 |.chain a ops l=>match eX rn bor k a g with
  |some (d1,g1)=>match Du rn bor k d1 ops l g1 with |some (c,g2)=>some (.dat (.bl c),g2) |none=>none
  |none=>none
 |.neg a=>match eX rn bor k a g with |some (.int i,g1)=>some (.dat (.int (-i)),g1) |_=>none
 |.not a=>match rn.e bor k a g with |some (.dat (.bl c),g1)=>some (.dat (.bl (!c)),g1) |_=>none
 |.and l=>G5 rn bor k l g
 |.or l=>X8 rn bor k l g
 |.ite c a b=>match rn.t bor k c g with
  |some (true,g1)=>rn.e bor k a g1
  |some (false,g1)=>rn.e bor k b g1
  |none=>none
 |.tup l=>match pF rn bor k l g with |some (ds,g1)=>if ds.length<=lim then some (.dat (.tup ds),g1)else none |none=>none
 |.lst l=>match pF rn bor k l g with |some (ds,g1)=>if ds.length<=lim then some (.new ds,g1)else none |none=>none
 |.ix a b=>match argsR rn bor k [a,b] g with
  |some ([r1,r2],g2)=>match pk r1 g2,pk r2 g2 with
   |some d1,some d2=>match vE d1 d2 with |some d=>some (.dat d,g2) |none=>none
   |_,_=>none
  |_=>none
 |.slice a lo hi=>match rn.e bor k a g with
  |some (r,g1)=>match G7 rn bor k lo g1 with
   |some (i,g2)=>match G7 rn bor k hi g2 with
    |some (j,g3)=>match norm r with
     |.dat (.tup l)=>some (.dat (.tup (oU l i j)),g3)
     |.dat (.fix l)=>some (.new (oU l i j),g3)
     |r'=>match pk r' g3 with |some (.lst l)=>some (.new (oU l i j),g3) |_=>none
    |none=>none
   |none=>none
  |none=>none
 |.call f l=>match fns[f]?,k with
  |some fx,k'+1=>match argsR rn bor k l g with
   |some (rs,g1)=>aU rn fx k' rs g1
   |none=>none
  |_,_=>none
 |.blt b l=>match argsR rn bor k l g with
  |some (rs,g1)=>match Az rs g1 with
   |some ds=>match pC b ds with |some r=>some (r,g1) |none=>none
   |none=>none
  |none=>none
 |.rH a n=>match rn.e bor k a g with
  |some (r,g1)=>match pk (norm r) g1 with |some d=>some (.dat (.bl (fX (qB d) n)),g1) |none=>none
  |none=>none
 |.qI a ns=>match rn.e bor k a g with
  |some (r,g1)=>match pk (norm r) g1 with |some d=>some (.dat (.bl (ns.any (fX (qB d)))),g1) |none=>none
  |none=>none
 |.comp n kk T it c e=>match fY rn bor k n kk T it c e g with |some (acc,g1)=>some (.new acc,g1) |none=>none
 |.cz n kk T1 nq c1 T it c e=>match lK rn bor k n kk T1 nq c1 T it c e g with |some (acc,g1)=>some (.new acc,g1) |none=>none
 |.gF a b=>match eX rn bor k a g with
  |some (.tup l,g1)=>match eX rn bor k b g1 with
   |some (.int i,g2)=>if 0<=i then some (.dat (.tup (gF l i.toNat)),g2)else none
   |_=>none
  |_=>none
 |.emp=>some (.dat .emp,g)
 |.stk=>none
 |.peek e=>if bor.isEmpty=true then match rn.e [] k e (g.map jv)with |some (.dat d,_)=>if flat d=true then some (.dat d,g)else none |_=>none else none
 |.refs f ir ca es=>match zL rn k fns f ir ca es g with |some ds=>some (.new ds,g) |none=>none
 |.gG f ir ca e=>match fns[f]?,k with
  |some fx,k'+2=>match rn.x [] k' e (g.map noOwn)with
   |some (ci,_)=>match ca[ci]? with
    |some C=>match rn.b [] k' (fx.body.drop 2) ((List.replicate fx.n .no).set ir (.dat (.mz C)))with
     |some (.rt r,g3)=>match dj [] g3 r with |some r'=>some (r',g) |none=>none
     |_=>none
    |none=>none
   |none=>none
  |_,_=>none
 |.rJ a l=>match rn.e bor k a g with
  |some (r,g1)=>match pk (norm r) g1 with
   |some (.mz C)=>match l.lookup C with |some b=>some (.dat (.bl b),g1) |none=>none
   |some .non=>some (.dat (.bl false),g1)
   |_=>none
  |none=>none
 |.append i e=>match g[i]? with
  |some (.own _)=>match eX rn bor k e g with
   |some (d,g1)=>match g1[i]? with |some (.own l)=>if l.length<lim then some (.dat .non,g1.set i (.own (l++[d])))else none |_=>none
   |none=>none
  |_=>none
 |.extend i e=>match g[i]? with
  |some (.own _)=>match eX rn bor k e g with
   |some (.lst m,g1)=>match g1[i]? with |some (.own l)=>if l.length+m.length<=lim then some (.dat .non,g1.set i (.own (l++m)))else none |_=>none
   |_=>none
  |_=>none
 |.iF i e=>match g[i]? with
  |some (.own _)=>match eX rn bor k e g with
   |some (.int j,g1)=>match g1[i]? with
    |some (.own l)=>match ql l.length j with
     |some n=>match l[n]? with |some d=>if l.length<lim then some (.dat d,g1.set i (.own (l.eraseIdx n)))else none |none=>none
     |none=>none
    |_=>none
   |_=>none
  |_=>none
 |.cR _=>none
 |.gW _ _=>none
 |.pB _ _ _=>none
 |.enum _=>none
 |.zip _ _=>none
 |.eW a=>match eX rn bor k a g with
  |some (.int j,g1)=>if Lr j=true/\j.toNat<=lim then some (.new (cL 0 j.toNat),g1)else none
  |_=>none
def stepT(e:Ex)(g:G):Option (Bool×G):=match e with
 |.cmp op a b=>match argsR rn bor k [a,b] g with
  |some ([r1,r2],g2)=>match pk r1 g2,pk r2 g2 with
   |some d1,some d2=>match ez op d1 d2 with |some c=>some (c,g2) |none=>none
   |_,_=>none
  |_=>none
 |.chain a ops l=>match eX rn bor k a g with
  |some (d1,g1)=>Du rn bor k d1 ops l g1
  |none=>none
 |.not a=>match rn.t bor k a g with |some (c,g1)=>some (!c,g1) |none=>none
 |.and l=>vF rn bor k l g
 |.or l=>G6 rn bor k l g
 |.ite _ _ _=>none
 |e=>match rn.e bor k e g with
  |some (r,g1)=>match pk (norm r) g1 with
   |some d=>match KC d with |some c=>some (c,g1) |none=>none
   |none=>none
  |none=>none
def jo(T:Tg)(b:G->Option (Fl×G)):List D->G->Option (Fl×G)
 | [],g=>some (.nx,g)
 |d::l,g=>match T.set d g with
  |none=>none
  |some g0=>match b g0 with
   |none=>none
   |some (.nx,g1)=>jo T b l g1
   |some (.ct,g1)=>jo T b l g1
   |some (.bk,g1)=>some (.nx,g1)
   |some (.rt r,g1)=>some (.rt r,g1)
noncomputable def Oj(c:G->Option (Bool×G))(b:G->Option (Fl×G)):Nat->G->Option (Fl×G)
 | 0,_=>none
 |n+1,g=>match c g with
  |none=>none
  |some (false,g1)=>some (.nx,g1)
  |some (true,g1)=>match b g1 with
   |none=>none
   |some (.nx,g2)=>Oj c b n g2
   |some (.ct,g2)=>Oj c b n g2
   |some (.bk,g2)=>some (.nx,g2)
   |some (.rt r,g2)=>some (.rt r,g2)
def aH(st:Sm)(g:G):Option (Fl×G):=match st with
 |.ret e=>match rn.e bor k e g with |some (r,g1)=>some (.rt r,g1) |none=>none
 |.expr e=>match rn.e bor k e g with |some (_,g1)=>some (.nx,g1) |none=>none
 |.set i e=>if i∈bor then none else match rn.e bor k e g with
  |some (.new l,g1)=>if i<g1.length then some (.nx,g1.set i (.own l))else none
  |some (r,g1)=>match toD bor r g1 with |some (d,g2)=>some (.nx,g2.set i (.dat d)) |none=>none
  |none=>none
 |.setC i e=>if i∈bor then none else match e with
  |.comp n kk T it c e=>match fY rn bor k n kk T it c e g with
   |some (acc,g1)=>if i<g1.length then some (.nx,g1.set i (.own acc))else none
   |none=>none
  |.cz n kk T1 nq c1 T it c e=>match lK rn bor k n kk T1 nq c1 T it c e g with
   |some (acc,g1)=>if i<g1.length then some (.nx,g1.set i (.own acc))else none
   |none=>none
  |_=>none
 |.tgt T e=>if T.ix.any (λi=>decide (i∈bor))=true then none else match eX rn bor k e g with
  |some (d,g1)=>match T.set d g1 with |some g2=>some (.nx,g2) |none=>none
  |none=>none
 |.item i j e=>match eX rn bor k e g with
  |some (d,g1)=>match g1[i]? with
   |some (.own _)=>match eX rn bor k j g1 with
    |some (.int n,g2)=>match g2[i]? with
     |some (.own l)=>match ql l.length n with |some m=>some (.nx,g2.set i (.own (l.set m d))) |none=>none
     |_=>none
    |_=>none
   |_=>none
  |none=>none
 |.items2 i x j y e=>match eX rn bor k e g with
  |some (.tup [d1,d2],g1)=>match g1[i]? with
   |some (.own _)=>match eX rn bor k x g1 with
    |some (.int n1,g2)=>match g2[i]? with
     |some (.own l)=>match ql l.length n1 with
      |some m1=>match (g2.set i (.own (l.set m1 d1)))[j]? with
       |some (.own _)=>match eX rn bor k y (g2.set i (.own (l.set m1 d1)))with
        |some (.int n2,g3)=>match g3[j]? with
         |some (.own l2)=>match ql l2.length n2 with |some m2=>some (.nx,g3.set j (.own (l2.set m2 d2))) |none=>none
         |_=>none
        |_=>none
       |_=>none
      |none=>none
     |_=>none
    |_=>none
   |_=>none
  |_=>none
 |.ite c a b=>match rn.t bor k c g with
  |some (true,g1)=>rn.b bor k a g1
  |some (false,g1)=>rn.b bor k b g1
  |none=>none
 |.loop T it b=>if T.ix.any (λi=>decide (i∈bor))=true then none else match eE rn bor k T.gH it g with
  |some (aj,g1)=>jo T (rn.b bor k b) aj g1
  |none=>none
 |.while c b=>Oj (rn.t bor k c) (rn.b bor k b) 100000 g
 |.raise _ _=>none
 |.calls ic x op rhs ret b=>match g[ic]? with
  |some .no=>match rn.e bor k x g with
   |some (.new ds,_)=>match rn.e bor k rhs g with
    |some (r2,g2)=>match pk (norm r2) g2 with
     |some d2=>match ez op (.lst ds) d2 with
      |some c=>if ret=true then some (.rt (.dat (.bl c)),g2)else if c=true then rn.b bor k b g2 else some (.nx,g2)
      |none=>none
     |none=>none
    |none=>none
   |_=>none
  |_=>none
 |.rows im it iy ia ib=>match g[im]?,g[it]? with
  |some (.dat (.int m)),some (.dat (.tup ao))=>match g[iy]?,g[ia]?,g[ib]? with
   |some .no,some .no,some .no=>if 0<=m/\m<=1000 then match iE ao (List.replicate m.toNat [])with |some ll=>some (.rt (.dat (.lst (ll.map .lst))),g) |none=>none else none
   |_,_,_=>none
  |_,_=>none
 |.stuck=>none
def fE:List Sm->G->Option (Fl×G)
 | [],g=>some (.nx,g)
 |st::rest,g=>match aH rn bor k st g with
  |some (.nx,g1)=>fE rest g1
  |some (f,g1)=>some (f,g1)
  |none=>none
noncomputable def xArgs:List Ex->G->Option (Nat×G)
 | [],_=>none
 |e::es,g=>match rn.x bor k e g with
  |some r=>some r
  |none=>match rn.e bor k e g with
   |some (_,g1)=>xArgs es g1
   |none=>none
def vI(fx:Fx)(k':Nat)(rs:List R)(g1:G):Option (Nat×G):=
 if rs.length=fx.np/\((vars 0 rs).map (·.2)).Nodup then match cu rs g1 with
  |none=>none
  |some gs=>match rn.xb ((vars 0 rs).map (·.1)) k' fx.body (dz fx.n gs)with
   |some (ci,gc)=>match back (vars 0 rs) gc g1 with |some gO=>some (ci,gO) |none=>none
   |none=>none
 else none
def vJ(fns:List Fx)(e:Ex)(g:G):Option (Nat×G):=match e with
 |.call f l=>match xArgs rn bor k l g with
  |some r=>some r
  |none=>match fns[f]?,k with
   |some fx,k'+1=>match argsR rn bor k l g with
    |some (rs,g1)=>vI rn fx k' rs g1
    |none=>none
   |_,_=>none
 |_=>none
noncomputable def sZ(e:Ex)(g:G):Option (Nat×G):=match e with
 |.not a=>rn.xt bor k a g
 |.call f l=>rn.x bor k (.call f l) g
 |_=>none
noncomputable def pG(st:Sm)(g:G):Option (Nat×G):=match st with
 |.ret e=>rn.x bor k e g
 |.expr e=>rn.x bor k e g
 |.ite c a b=>match rn.xt bor k c g with
  |some r=>some r
  |none=>match rn.t bor k c g with
   |some (true,g1)=>rn.xb bor k a g1
   |some (false,g1)=>rn.xb bor k b g1
   |none=>none
 |.raise ci e=>match eX rn bor k e g with |some (_,g1)=>some (ci,g1) |none=>none
 |_=>none
def jB:List Sm->G->Option (Nat×G)
 | [],_=>none
 |st::rest,g=>match pG rn bor k st g with
  |some r=>some r
  |none=>match aH rn bor k st g with
   |some (.nx,g1)=>jB rest g1
   |_=>none
end
def step(fns:List Fx)(rn:Rn):Rn:=⟨λbor k e g=>aV rn bor k fns e g,λbor k e g=>stepT rn bor k e g,λbor k l g=>fE rn bor k l g,λbor k e g=>vJ rn bor k fns e g,λbor k e g=>sZ rn bor k e g,λbor k l g=>jB rn bor k l g⟩
noncomputable def rn0:Rn:=⟨λ_ _ _ _=>none,λ_ _ _ _=>none,λ_ _ _ _=>none,λ_ _ _ _=>none,λ_ _ _ _=>none,λ_ _ _ _=>none⟩
def run(fns:List Fx):Nat->Rn
 | 0=>rn0
 |n+1=>step fns (run fns n)
structure Ct where
 N:List Str
 sc:Scope
 df:Bool
 q:Str
structure Fi where
 name:Str
 qual:Str
 st:Stmt
 N:List Str
 ps:List Str
structure Pg where
 fn:List Fi
 ct:List (Str×D)
 bn:List Str
 cls:List Str:=[]
 lam:Bool:=false
 g6:List Addr:=[]
 kt:Str:=Str.empty
 ups:List (Str×List (Addr×Bool)):=[]
def ji:Str:= "law.<locals>.<lambda>"
def G8(K:Frag)(mg:Str->Option Value)(bD:Value):Prop:=
 ∃c q,bD=.ref c/\(∀b:Heap,K.In b->PySem.W.CodeHd b c q)/\(q,ji)∈cE K/\(∀b:Heap,K.In b->b.BuiltinsAt mg q)/\mainGlobals≠q
structure tD(P:Pg)(K:Frag)(mg:Str->Option Value):Prop where
 fn:∀(i:Nat) (fi:Fi),P.fn[i]?=some fi->∃f fd,mg fi.name=some (.ref f)/\Jk K fi.name fi.qual fi.st f fd/\bS fi.N fi.ps (aE fi.st)/\L2.Binds K fd fi.ps []/\(fi.name==("__debug__":Str))=false
 ct:∀(x:Str) (d:D),(x,d)∈P.ct->(x==("__debug__":Str))=false/\∃v u,mg x=some u/\RelV v u/\∀M H,Rep K M H d v
 bn:∀x∈P.bn,mg x=none
 cls:∀x∈P.cls,(x==("__debug__":Str))=false/\∃C,mg x=some (.ref C)/\fM K C
 lam:P.lam=true->∀bD,PySem.W.codeIn K bD "law"=true->G8 K mg bD
 g6:∀(i:Nat) (C:Addr),P.g6[i]?=some C->∃x,P.cls[i]?=some x/\mg x=some (.ref C)/\fM K C/\Jl K C
 kt:P.lam=true->(P.kt==("__debug__":Str))=false/\∃D,mg P.kt=some (.ref D)/\fM K D/\∀C∈P.g6,vn K C D=true
 ups:∀(x:Str) (l:List (Addr×Bool)),(x,l)∈P.ups->(x==("__debug__":Str))=false/\∃cv,((mg x=some cv/\∃D,cv=.ref D)\/(x∈P.bn/\x≠ "__name__" /\bootBuiltins x=some cv/\∃n,cv=.type n))/\PySem.W.kitOne K (.type "NoneType") cv=some false/\∀C b,l.lookup C=some b->PySem.W.kitOne K (.ref C) cv=some b
structure bh(P:Pg)(k:Nat)(X:Cx)(c:Ct):Prop where
 N:X.N=c.N
 nd:c.N.Nodup
 Vs:∀x,c.sc.names.lookup x=some .local->X.env.scope.names.lookup x=some .local
 ki:∀x,c.sc.names.lookup x=some .globalImplicit->Gl X x
 fre:∀x,c.sc.names.lookup x=some .cell\/c.sc.names.lookup x=some .free->X.env.scope.names.lookup x=some .cell\/X.env.scope.names.lookup x=some .free
 ZW:c.df=true->∀x,c.sc.names.lookup x=some .cell->X.env.scope.names.lookup x=some .cell
 fn:∀x,c.df=true\/c.sc.names.lookup x=some .local->X.fn x=true
 bk:c.df=true->X.env.blockKind=.function
 calm:X.calm=true
 xe:X.xe=λ_ _=>False
 md:tD P X.K X.mg
 room:cD k X.A
 lam:c.q = "law" ->P.lam=true->X.env.qual ++ "<lambda>"=ji/\G8 X.K X.mg X.env.code
noncomputable def fZ(sc:Scope)(x:Str):Bool:=match sc.names.lookup x with |some .local=>true |some .cell=>true |some .free=>true |_=>false
noncomputable def d8(c:Ct)(x:Str):Bool:=match c.sc.names.lookup x with |some .local=>true |some .cell=>c.df |_=>false
noncomputable def aY(x:Str):Bool:=!(x==("__debug__":Str))&&!(x==("__classdict__":Str))
section
theorem bh.vis(h:bh P k X c)(hv:fZ c.sc x=true):gR X.env.scope x:=by
 unfold fZ at hv;split at hv
 . rename_i e;exact .inl (h.Vs x e)
 . rename_i e;exact (h.fre x (.inl e)).elim (λq=>.inr (.inl q)) λq=>.inr (.inr q)
 . rename_i e;exact (h.fre x (.inr e)).elim (λq=>.inr (.inl q)) λq=>.inr (.inr q)
 . cases hv
theorem bh.nm(h:bh P k X c)(hi:c.N[i]?=some x)(hs:d8 c x=true):oM X x i:=by
 refine⟨h.N▸h.nd,by rw[h.N];exact hi,?_,.inl (h.fn x ?_)⟩
 .
  unfold d8 at hs;split at hs
  . rename_i e;exact .inl (h.Vs x e)
  . rename_i e;exact .inr (h.ZW hs x e)
  . cases hs
 .
  unfold d8 at hs;split at hs
  . rename_i e;exact .inr e
  . exact .inl hs
  . cases hs
theorem bq(h:aY x=true):(x==("__debug__":Str))=false/\(x==("__classdict__":Str))=false:=by unfold aY at h;simp only[eC,Bool.not_eq_true']at h;exact h
theorem cS{α:Type}{f:Int->Int->Option α}{a b:D}{r:α}(h:lJ f a b=some r):∃i j,a=.int i/\b=.int j/\f i j=some r:=by
 unfold lJ at h;split at h
 .
  split at h
  . exact⟨_,_,rfl,rfl,h⟩
  . cases h
 . cases h
theorem Ls{d1 d2:D}{r:R}(hK:z.K=X.K)(h:G4 d1 d2=some r):nh X z (binaryOp .Add) d1 d2 r:=by
 unfold G4 at h;split at h
 .
  split at h
  . cases h;exact zb PL
  . cases h
 .
  split at h
  .
   split at h
   . rename_i hc;cases h;exact QJ hc
   . cases h
  . cases h
 .
  split at h
  .
   split at h
   . rename_i hc;cases h;exact Ka hK hc
   . cases h
  . cases h
 . cases h
theorem Lv{d1:D}{k:Int}{r:R}(hK:z.K=X.K)(h:Lq d1 k=some r):nh X z (binaryOp .Mult) d1 (.int k) r:=by
 unfold Lq at h;split at h
 .
  split at h
  . rename_i hc;cases h;refine sM PX ?_;unfold Lp at hc;simp only[AF,eC,hU]at hc;exact hc
  . cases h
 .
  split at h
  . rename_i hc;cases h;exact QK hc.1 hc.2.1 hc.2.2
  . cases h
 . cases h
theorem Sf(hK:z.K=X.K)(h:vD op d1 d2=some r):nh X z (binaryOp op) d1 d2 r:=by
 cases op with
 |Add=>exact Ls hK h
 |Sub=>obtain⟨i,j,rfl,rfl,h'⟩:=cS h;cases h';exact zb PN
 |Mult=>
  dsimp only[vD]at h;split at h
  . exact Lv hK h
  . cases h
 |FloorDiv=>
  obtain⟨i,j,rfl,rfl,h'⟩:=cS h;split at h'
  . rename_i hc;cases h';exact sM JF hc
  . cases h'
 |Mod=>
  obtain⟨i,j,rfl,rfl,h'⟩:=cS h;split at h'
  . rename_i hc;cases h';exact sM P0 hc
  . cases h'
 |Pow=>
  obtain⟨i,j,rfl,rfl,h'⟩:=cS h;split at h'
  . rename_i hc;cases h';exact sM sA ⟨hc.1,by have:=hc.2.1;lia,hc.2.2⟩
  . cases h'
 |_=>cases h
theorem jC(hK:z.K=X.K)(hr:cD k X.A)(h:ez op d1 d2=some b):nh X z (compareOp op) d1 d2 (.dat (.bl b)):=by
 have hu:=hr.un;cases op with
 |Eq=>
  dsimp only[ez]at h;split at h
  . rename_i hc;cases h;simp only[fP,eC,hU]at hc;exact WX hK hc.1.1 hc.1.2 (by have:=hc.2;lia)
  . cases h
 |NotEq=>
  dsimp only[ez]at h;split at h
  . rename_i hc;cases h;simp only[fP,eC,hU]at hc;exact W0 hK hc.1.1 hc.1.2 (by have:=hc.2;lia)
  . cases h
 |Lt=>
  dsimp only[ez,ltF]at h;split at h
  .
   split at h
   . cases h;exact sN Wj
   . cases h
  .
   split at h
   .
    split at h
    .
     rename_i h1;split at h
     . rename_i h2;cases h;exact QT hK ⋯ h1 h2
     . cases h
    . cases h
   . cases h
  . cases h
 |LtE=>obtain⟨i,j,rfl,rfl,h'⟩:=cS h;cases h';exact sN Wk
 |Gt=>obtain⟨i,j,rfl,rfl,h'⟩:=cS h;cases h';exact sN Wm
 |GtE=>obtain⟨i,j,rfl,rfl,h'⟩:=cS h;cases h';exact sN Wn
 |In=>
  dsimp only[ez]at h;split at h
  .
   rename_i hs;split at h
   . rename_i hc;cases h;simp only[nu,eC,hU]at hc;exact W3 hK hs hc.1.1 hc.1.2 (by have:=hc.2;lia)
   . cases h
  . cases h
 |NotIn=>
  dsimp only[ez]at h;split at h
  .
   rename_i hs;split at h
   . rename_i hc;cases h;simp only[nu,eC,hU]at hc;exact Er hK hs hc.1.1 hc.1.2 (by have:=hc.2;lia)
   . cases h
  . cases h
 |_=>cases h
theorem Sh(hK:z.K=X.K)(h:vE d1 d2=some d):WQ X z d1 d2 (.dat d):=by
 unfold vE at h;split at h
 . exact QM hK h
 . exact QS hK h
 . exact Kc hK h
 . cases h
noncomputable def Yb:Bl->Str×Value
 |.len=>("len",.builtin "len")
 |.list=>("list",.type "list")
 |.tuple=>("tuple",.type "tuple")
 |.max=>("max",.builtin "max")
 |.min=>("min",.builtin "min")
 |.str=>("str",.type "str")
 |.all=>("all",.builtin "all")
 |.sorted=>("sorted",.builtin "sorted")
 |.sum=>("sum",.builtin "sum")
theorem Si{b:Bl}{d:D}{r:R}(hK:z.K=X.K)(hc:X.calm=true)(h:R9 b d=some r):CallD X z (Yb b).2 [d] r:=by
 cases b <;> dsimp only[R9]at h
 case len=>
  split at h
  . rename_i e;cases h;exact QW hK e
  . cases h
 case list=>
  split at h
  . rename_i e;cases h;exact Kd hK e
  . cases h
 case tuple=>
  split at h
  . rename_i e;cases h;exact Et hK e
  . cases h
 case all=>
  split at h
  .
   split at h
   . rename_i e;cases h;exact Q5 hc e
   . cases h
  . cases h
 case sorted=>
  split at h
  .
   rename_i e1;split at h
   .
    rename_i e2;split at h
    . rename_i e3;cases h;exact Bt hK e1 e2 e3
    . cases h
   .
    split at h
    .
     rename_i e2;split at h
     . rename_i e3;cases h;exact xF hK e1 e2 e3
     . cases h
    . cases h
  . cases h
 all_goals cases h
theorem Sj(hK:z.K=X.K)(hc:X.calm=true)(h:pC b ds=some r):CallD X z (Yb b).2 ds r:=by
 unfold pC at h;split at h
 . exact Si hK hc h
 .
  cases b with
  |max=>obtain⟨i,j,rfl,rfl,h'⟩:=cS h;cases h';exact QX hc
  |min=>obtain⟨i,j,rfl,rfl,h'⟩:=cS h;cases h';exact QZ hc
  |_=>cases h
 . cases h
noncomputable def qJ:List String:=["int", "bool", "str", "tuple", "list", "dict"]
theorem vK{K:Frag}{M:List Addr}{H:Hp}{v:V}{d:D}(p:Pk K M H d v){n:String}(hn:n∈qJ):PySem.W.kitOne K (Dp d) (.type n)=some (fX (qB d) n):=by
 cases d with
 |mz C=>
  cases p with
  |of q=>
   cases q with
   |mz k _ _=>refine (k.kit n hn).trans ?_;unfold qJ at hn;simp only[d6,nN,A5]at hn;rcases hn with rfl |rfl |rfl |rfl |rfl |rfl <;> first |rfl |decide
 |_=>unfold qJ at hn;simp only[d6,nN,A5]at hn;rcases hn with rfl |rfl |rfl |rfl |rfl |rfl <;> first |rfl |decide
theorem rK{K:Frag}{M:List Addr}{H:Hp}{v:V}{d:D}(p:Pk K M H d v):∀{ns:List String},(∀n∈ns,n∈qJ)->PySem.W.kitAny K (Dp d) (ns.map Value.type)=some (ns.any (fX (qB d)))
 | [],_=>rfl
 |n::ns,h=>by
  show (match PySem.W.kitOne K (Dp d) (.type n)with |some true=>some true |some false=>PySem.W.kitAny K (Dp d) (ns.map Value.type) |none=>none)=_
  rw[vK p (h n dA),rK p λm hm=>h m (a9 _ hm),List.any_cons]
  cases fX (qB d) n <;> rfl
end
noncomputable def pH(sc scope:Scope):Bool:=decide (scope.kind=.function)&&scope.names.all λy=>decide (y.2≠.cell)&&(decide (y.2≠.local)||decide (scope.names.lookup y.1=some .local)) &&
 (decide (y.2≠.free)||(decide (scope.names.lookup y.1=some .free)&&(decide (sc.names.lookup y.1=some .cell)||decide (sc.names.lookup y.1=some .free))))
noncomputable def iG(N N':List Str)(scope:Scope)(k:Nat):Bool:=decide (N'.length=N.length+(k+1))&&(match N'[N.length+k]? with |some x=>decide (scope.names.lookup x=none) |none=>true) &&
 (List.range N.length).all λi=>match N'[i]? with |some x=>decide (scope.names.lookup x=none)||(decide (N[i]?=some x)&&decide (scope.names.lookup x≠some .local)) |none=>true
inductive Cr(c:Ct):List Expr->List Nat->Prop
 |nil:Cr c [] []
 |cons {x:Str}{i:Nat}{pos:Pos}{es:List Expr}{is:List Nat}:c.N[i]?=some x->d8 c x=true->Cr c es is->Cr c (.Name x pos::es) (i::is)
inductive x9(P:Pg)(c:Ct):List Expr->List String->Prop
 |nil:x9 P c [] []
 |cons {T:Str}{n:String}{pos:Pos}{es:List Expr}{ns:List String}:T∈P.bn->c.sc.names.lookup T=some .globalImplicit->T=Str.ofString n->n∈qJ->x9 P c es ns->x9 P c (.Name T pos::es) (n::ns)
inductive zM(c:Ct):Expr->Tg->Prop
 |nm:c.N[i]?=some x->d8 c x=true->zM c (.Name x pos) (.nm i)
 |tp {es:List Expr}{is:List Nat}{k:Nat}{pos:Pos}:Cr c es is->zM c (.Tuple es k pos) (.tp is)
noncomputable def G9(c:Ct)(y:Str)(py pos:Pos)(scope:Scope):Bool:=(c.sc.names.lookup y==some .local)&&py.line==pos.line&&!(scope.names.any λ(n,k)=>n==y&&(k==.local||k==.cell))
def nmW(e:Expr):Option Str:=match e with |.Name x _=>some x |_=>none
noncomputable def tp2(e:Expr):Bool:=match e with |.Tuple vs _ _=>decide (vs.length=2) |_=>false
def Hf(c:Ct)(es:List Expr)(e:Expr):Bool:=match es with
 | [a,b]=>tp2 e&&(c.df&&(match nmW a with |some x=>(match nmW b with |some y=>decide (c.sc.names.lookup x=some .cell)||decide (c.sc.names.lookup y=some .cell) |none=>false) |none=>false))
 |_=>false
inductive jD(R:Expr->Ex->Prop):List Expr->List Ex->Prop
 |nil:jD R [] []
 |cons {e:Expr}{es:List Expr}{x:Ex}{xs:List Ex}:R e x->jD R es xs->jD R (e::es) (x::xs)
inductive Cu(R:Expr->Ex->Prop):Option Expr->Option Ex->Prop
 |none:Cu R Option.none Option.none
 |some {e:Expr}{x:Ex}:R e x->Cu R (Option.some e) (Option.some x)
inductive pI(R:Expr->Ex->Prop):List Expr->Option Ex->Prop
 |none:pI R [] Option.none
 |some {e:Expr}{x:Ex}:R e x->pI R [e] (Option.some x)
inductive lM(P:Pg)(R:Expr->Ex->Prop)(c:Ct):Expr->Ex->Prop
 |seq:R e x->lM P R c e x
 |cR:R a xa->("range":Str)∈P.bn->c.sc.names.lookup ("range":Str)=some .globalImplicit->lM P R c (.Call (.Name "range" p) [a] [] pos) (.cR xa)
 |gW:R a xa->R b xb->("range":Str)∈P.bn->c.sc.names.lookup ("range":Str)=some .globalImplicit->lM P R c (.Call (.Name "range" p) [a,b] [] pos) (.gW xa xb)
 |pB:R a xa->R b xb->R s xs->("range":Str)∈P.bn->c.sc.names.lookup ("range":Str)=some .globalImplicit->lM P R c (.Call (.Name "range" p) [a,b,s] [] pos) (.pB xa xb xs)
 |zip:R a xa->R b xb->("zip":Str)∈P.bn->c.sc.names.lookup ("zip":Str)=some .globalImplicit->lM P R c (.Call (.Name "zip" p) [a,b] [] pos) (.zip xa xb)
 |enum:R a xa->("enumerate":Str)∈P.bn->c.sc.names.lookup ("enumerate":Str)=some .globalImplicit->lM P R c (.Call (.Name "enumerate" p) [a] [] pos) (.enum xa)
noncomputable def zO(e:Expr):Option Str:=match e with |.Name x _=>some x |_=>none
theorem pJ{e:Expr}{x:Str}(h:zO e=some x):∃p,e=.Name x p:=by cases e <;> first | (cases h;exact⟨_,rfl⟩) |cases h
noncomputable def Hg{α:Type}(l:List α):Option α:=match l with | [a]=>some a |_=>none
theorem nO{α:Type}{l:List α}{a:α}(h:Hg l=some a):l=[a]:=by
 cases l with
 |nil=>cases h
 |cons b l=>cases l with
  |nil=>cases h;rfl
  |cons _ _=>cases h
noncomputable def Yc(s:Stmt):Option (List Expr×Expr):=match s with |.Assign ts e _=>some (ts,e) |_=>none
theorem Lw{s:Stmt}{r:List Expr×Expr}(h:Yc s=some r):∃p,s=.Assign r.1 r.2 p:=by cases s <;> first | (cases h;exact⟨_,rfl⟩) |cases h
noncomputable def Yd(e:Expr):Option Const:=match e with |.Constant c _ _=>some c |_=>none
theorem Lx(h:Yd e=some c):∃j p,e=.Constant c j p:=by cases e <;> first | (cases h;exact⟨_,_,rfl⟩) |cases h
noncomputable def Ye(c:Const):Option Unit:=match c with |.none=>some () |_=>none
theorem Ly(h:Ye c=some ()):c=.none:=by cases c <;> first |rfl |cases h
noncomputable def Yg(s:Stmt):Option Expr:=match s with |.Expr e _=>some e |_=>none
theorem Lz{s:Stmt}{e:Expr}(h:Yg s=some e):∃p,s=.Expr e p:=by cases s <;> first | (cases h;exact⟨_,rfl⟩) |cases h
noncomputable def Yh(e:Expr):Option (Expr×List Expr×List Keyword):=match e with |.Call f as ks _=>some (f,as,ks) |_=>none
theorem LC{e:Expr}{r:Expr×List Expr×List Keyword}(h:Yh e=some r):∃p,e=.Call r.1 r.2.1 r.2.2 p:=by cases e <;> first | (cases h;exact⟨_,rfl⟩) |cases h
noncomputable def Yi(s:Stmt):Option (List Stmt×List ExceptHandler×List Stmt×List Stmt):=match s with |.Try b h o f _=>some (b,h,o,f) |_=>none
theorem LK{s:Stmt}{r:List Stmt×List ExceptHandler×List Stmt×List Stmt}(h:Yi s=some r):∃p,s=.Try r.1 r.2.1 r.2.2.1 r.2.2.2 p:=by cases s <;> first | (cases h;exact⟨_,rfl⟩) |cases h
noncomputable def Hi{α:Type}(l:List α):Option Unit:=match l with | []=>some () |_=>none
theorem nP{α:Type}{l:List α}(h:Hi l=some ()):l=[]:=by cases l with |nil=>rfl |cons _ _=>cases h
noncomputable def Yj(h:ExceptHandler):Option (Expr×Str×List Stmt):=match h with |.ExceptHandler t n b _=>t.bind λt=>n.bind λn=>some (t,n,b)
theorem LQ{h:ExceptHandler}{r:Expr×Str×List Stmt}(e:Yj h=some r):∃p,h=.ExceptHandler (some r.1) (some r.2.1) r.2.2 p:=by
 obtain⟨t,n,b,p⟩:=h;cases t with
 |none=>cases e
 |some t=>cases n with
  |none=>cases e
  |some n=>cases e;exact⟨p,rfl⟩
def zP(s:Stmt):Option (Str×Expr):=(Yc s).bind λr=>(Hg r.1).bind λt=>(zO t).bind λx=>some (x,r.2)
theorem vL{s:Stmt}{r:Str×Expr}(h:zP s=some r):∃p q,s=.Assign [.Name r.1 p] r.2 q:=by unfold zP at h;simp only[eQ]at h;obtain⟨⟨ts,e⟩,h1,t,h2,x,h3,h4⟩:=h;cases h4;obtain⟨p,rfl⟩:=Lw h1;obtain⟨q,rfl⟩:=pJ h3;have:=nO h2;dsimp only at this;subst this;exact⟨q,p,rfl⟩
def Sl(l:List Stmt):Option Str:=(Hg l).bind λs3=>(Yg s3).bind λce=>(Yh ce).bind λf=>(Hi f.2.1).bind λ_=>(Hi f.2.2).bind λ_=>zO f.1
theorem LR{l:List Stmt}{y:Str}(h:Sl l=some y):∃py cp ep,l=[.Expr (.Call (.Name y py) [] [] cp) ep]:=by replace h:=eQ.1 h;obtain⟨s3,h1,h⟩:=h;cases nO h1;clear h1;replace h:=eQ.1 h;obtain⟨ce,h1,h⟩:=h;obtain⟨p,e1⟩:=Lz h1;cases e1;clear h1;replace h:=eQ.1 h;obtain⟨⟨f1,f2,f3⟩,h1,h⟩:=h;obtain⟨q,e1⟩:=LC h1;cases e1;clear h1;replace h:=eQ.1 h;obtain⟨_,h1,h⟩:=h;replace h:=eQ.1 h;obtain⟨_,h2,h⟩:=h;obtain⟨r,e1⟩:=pJ h;exact⟨r,q,p,by have a:=nP h1;have b:=nP h2;dsimp only at a b e1 ⊢;rw[a,b,e1]⟩
def Sq(l:List ExceptHandler):Option (Str×Str×Str×Str):=(Hg l).bind λhh=>(Yj hh).bind λu=>(zO u.1).bind λke=>(Hg u.2.2).bind λs4=>(zP s4).bind λb=>(zO b.2).bind λOl=>some (ke,u.2.1,b.1,Ol)
theorem LW{l:List ExceptHandler}{r:Str×Str×Str×Str}(h:Sq l=some r):∃kp vq vo ap hp,l=[.ExceptHandler (some (.Name r.1 kp)) (some r.2.1) [.Assign [.Name r.2.2.1 vq] (.Name r.2.2.2 vo) ap] hp]:=by replace h:=eQ.1 h;obtain⟨hh,h1,h⟩:=h;cases nO h1;clear h1;replace h:=eQ.1 h;obtain⟨⟨u1,u2,u3⟩,h1,h⟩:=h;obtain⟨p,e1⟩:=LQ h1;cases e1;clear h1;replace h:=eQ.1 h;obtain⟨ke,h1,h⟩:=h;obtain⟨q,e1⟩:=pJ h1;cases e1;clear h1;replace h:=eQ.1 h;obtain⟨s4,h1,h⟩:=h;cases nO h1;clear h1;replace h:=eQ.1 h;obtain⟨⟨b1,b2⟩,h1,h⟩:=h;obtain⟨m,n,e1⟩:=vL h1;cases e1;clear h1;replace h:=eQ.1 h;obtain⟨en,h1,h⟩:=h;obtain⟨o,e1⟩:=pJ h1;cases e1;clear h1;cases h;exact⟨q,m,o,n,p,rfl⟩
def Yk(s:Stmt):Option Str:=(zP s).bind λa=>(Yd a.2).bind λc=>(Ye c).bind λ_=>some a.1
theorem L0(h:Yk s=some x):∃p j np ap,s=.Assign [.Name x p] (.Constant .none j np) ap:=by replace h:=eQ.1 h;obtain⟨⟨a1,a2⟩,h1,h⟩:=h;obtain⟨p,q,e1⟩:=vL h1;cases e1;clear h1;replace h:=eQ.1 h;obtain⟨c,h1,h⟩:=h;obtain⟨j,m,e1⟩:=Lx h1;cases e1;clear h1;replace h:=eQ.1 h;obtain⟨_,h1,h⟩:=h;cases Ly h1;clear h1;cases h;exact⟨p,j,m,q,rfl⟩
def Yl(s:Stmt):Option (Str×Str×Str×Str×Str):=(Yi s).bind λt=>(Hi t.2.2.1).bind λ_=>(Hi t.2.2.2).bind λ_=>(Sl t.1).bind λy=>(Sq t.2.1).bind λu=>some (y,u)
theorem L1{s:Stmt}{r:Str×Str×Str×Str×Str}(h:Yl s=some r):∃l hs p,Sl l=some r.1/\Sq hs=some r.2/\s=.Try l hs [] [] p:=by replace h:=eQ.1 h;obtain⟨⟨t1,t2,t3,t4⟩,h1,h⟩:=h;obtain⟨p,e1⟩:=LK h1;cases e1;clear h1;replace h:=eQ.1 h;obtain⟨_,h1,h⟩:=h;cases nP h1;clear h1;replace h:=eQ.1 h;obtain⟨_,h1,h⟩:=h;cases nP h1;clear h1;replace h:=eQ.1 h;obtain⟨y,h1,h⟩:=h;replace h:=eQ.1 h;obtain⟨u,h2,h⟩:=h;cases h;exact⟨t1,t2,p,h1,h2,rfl⟩
def Ss(l:List Stmt):Option (Str×Str×Str×Str×Str×Str):=match l with
 |s1::s2::_=>(Yk s1).bind λa=>(Yl s2).bind λt=>some (a,t)
 |_=>none
theorem L5(h:Ss l=some (er,y,ke,en,Ju,Ol)):∃Ci j np Vj py aR qj kp vq vo bG qk iO rest,l=.Assign [.Name er Ci] (.Constant .none j np) Vj::.Try [.Expr (.Call (.Name y py) [] [] aR) qj] [.ExceptHandler (some (.Name ke kp)) (some en) [.Assign [.Name Ju vq] (.Name Ol vo) bG] qk] [] [] iO::rest:=by
 unfold Ss at h;split at h
 . replace h:=eQ.1 h;obtain⟨a,h1,h⟩:=h;replace h:=eQ.1 h;obtain⟨t,h2,h⟩:=h;cases h;obtain⟨p,j,np,ap,e1⟩:=L0 h1;obtain⟨l,hs,tp,h3,h4,e2⟩:=L1 h2;obtain⟨py,cp,ep,e3⟩:=LR h3;obtain⟨kp,vq,vo,ap',hp,e4⟩:=LW h4;exact⟨p,j,np,ap,py,cp,ep,kp,vq,vo,ap',hp,tp,_,by rw[e1,e2,e3,e4]⟩
 . cases h
def Hj(fi:Fi)(ir:Nat)(kt:Str):Bool:=match Ss (bA fi.st)with
 |some (er,y,ke,en,Ju,Ol)=>decide ((ke=kt/\Ju=er/\Ol=en/\fi.ps=[y])/\((aE fi.st).names.lookup ke=some .globalImplicit/\fi.N[fi.N.idxOf en]?=some en/\(aE fi.st).names.lookup en=some .local)/\(fi.N[ir]?=some er/\fi.N[0]?=some y)/\(fi.N.idxOf en≠ir/\fi.N.idxOf en≠0/\ir≠0))&&((aY en&&aY y)&&(fZ (aE fi.st) y&&d8 ⟨fi.N,aE fi.st,true,fi.qual⟩ er))
 |none=>false
noncomputable def Cv(params:Arguments)(scope:Scope):Bool:=match params with
 |⟨[],[],none,[],[],none,[]⟩=>(!scope.isCoroutine&&!scope.isGenerator)&&(decide (scope.kind=.function)&&scope.names.all λy=>decide (y.2≠.cell)&&decide (y.2≠.local))
 |_=>false
theorem tE(h:Cv params scope=true):eu params scope:=by
 unfold Cv at h;split at h
 . simp only[eC,Bool.not_eq_true',hU,hZ]at h;exact⟨h.1.1,h.1.2,h.2.1,λx hx=>(h.2.2 x hx).1,λx hx=>(h.2.2 x hx).2,rfl⟩
 . cases h
inductive gP(P:Pg)(R:Ct->Expr->Ex->Prop)(c:Ct):Expr->Ex->Prop
 |int {i:Int}{j:Nat}{pos:Pos}:gP P R c (.Constant (.int i) j pos) (.val (.int i))
 |bool:gP P R c (.Constant (.bool i) j pos) (.val (.bl i))
 |none {j:Nat}{pos:Pos}:gP P R c (.Constant .none j pos) (.val .non)
 |str:gP P R c (.Constant (.str i) j pos) (.val (.str i))
 |var {x:Str}{i:Nat}{pos:Pos}:c.N[i]?=some x->fZ c.sc x=true->aY x=true->gP P R c (.Name x pos) (.slot i)
 |glob {x:Str}{d:D}{pos:Pos}:(x,d)∈P.ct->c.sc.names.lookup x=some .globalImplicit->gP P R c (.Name x pos) (.val d)
 |bin {a b:Expr}{xa xb:Ex}{op:Operator}{pos:Pos}:R c a xa->R c b xb->gP P R c (.BinOp a op b pos) (.bin op xa xb)
 |cmp {a b:Expr}{xa xb:Ex}{op:CmpOp}{pos:Pos}:R c a xa->R c b xb->behindInMarks op b=false->gP P R c (.Compare a [op] [b] pos) (.cmp op xa xb)
 |chain {a b1 b2:Expr}{bs:List Expr}{xa x1 x2:Ex}{xs:List Ex}{Ky Kz:CmpOp}{ops:List CmpOp}{pos:Pos}:R c a xa->jD (R c) (b1::b2::bs) (x1::x2::xs)->lastMarks (Ky::Kz::ops) (b1::b2::bs)=false->gP P R c (.Compare a (Ky::Kz::ops) (b1::b2::bs) pos) (.chain xa (Ky::Kz::ops) (x1::x2::xs))
 |neg {a:Expr}{xa:Ex}{pos:Pos}:R c a xa->gP P R c (.UnaryOp .USub a pos) (.neg xa)
 |not {a:Expr}{xa:Ex}{pos:Pos}:R c a xa->gP P R c (.UnaryOp .Not a pos) (.not xa)
 |and {es:List Expr}{xs:List Ex}{pos:Pos}:jD (R c) es xs->gP P R c (.BoolOp .And es pos) (.and xs)
 |or {es:List Expr}{xs:List Ex}{pos:Pos}:jD (R c) es xs->gP P R c (.BoolOp .Or es pos) (.or xs)
 |ite {t a b:Expr}{xt xa xb:Ex}{pos:Pos}:R c t xt->R c a xa->R c b xb->gP P R c (.IfExp t a b pos) (.ite xt xa xb)
 |tup {es:List Expr}{xs:List Ex}{k:Nat}{pos:Pos}:jD (R c) es xs->gP P R c (.Tuple es k pos) (.tup xs)
 |lst {es:List Expr}{xs:List Ex}{pos:Pos}:jD (R c) es xs->gP P R c (.List es pos) (.lst xs)
 |ix {a b:Expr}{xa xb:Ex}{pos:Pos}:R c a xa->R c b xb->gP P R c (.Subscript a b pos) (.ix xa xb)
 |slice {a:Expr}{lo hi:Option Expr}{xa:Ex}{xl xh:Option Ex}{p2 pos:Pos}:R c a xa->Cu (R c) lo xl->Cu (R c) hi xh->gP P R c (.Subscript a (.Slice lo hi Option.none p2) pos) (.slice xa xl xh)
 |call {x:Str}{f:Nat}{fi:Fi}{e:Expr}{es:List Expr}{xs:List Ex}{p pos:Pos}:P.fn[f]?=some fi->fi.name=x->c.sc.names.lookup x=some .globalImplicit->jD (R c) (e::es) xs->gP P R c (.Call (.Name x p) (e::es) [] pos) (.call f xs)
 |blt {x:Str}{b:Bl}{e:Expr}{es:List Expr}{xs:List Ex}{p pos:Pos}:(Yb b).1=x->x∈P.bn->c.sc.names.lookup x=some .globalImplicit->jD (R c) (e::es) xs->gP P R c (.Call (.Name x p) (e::es) [] pos) (.blt b xs)
 |rH {a:Expr}{xa:Ex}{T:Str}{n:String}{p pT pos:Pos}:R c a xa->("isinstance":Str)∈P.bn->c.sc.names.lookup ("isinstance":Str)=some .globalImplicit->T∈P.bn->c.sc.names.lookup T=some .globalImplicit->T=Str.ofString n->n∈qJ->gP P R c (.Call (.Name "isinstance" p) [a,.Name T pT] [] pos) (.rH xa n)
 |qI {a:Expr}{xa:Ex}{es:List Expr}{ns:List String}{k:Nat}{p pT pos:Pos}:R c a xa->("isinstance":Str)∈P.bn->c.sc.names.lookup ("isinstance":Str)=some .globalImplicit->ns.length<=100->
   x9 P c es ns->gP P R c (.Call (.Name "isinstance" p) [a,.Tuple es k pT] [] pos) (.qI xa ns)
 |gF {a b:Expr}{xa xb:Ex}{j:Nat}{p1 p2 pos:Pos}:R c a xa->R c b xb->gP P R c (.Subscript a (.Slice (some b) none (some (.Constant (.int 2) j p1)) p2) pos) (.gF xa xb)
 |emp {pos:Pos}:gP P R c (.Dict [] [] pos) .emp
 |peek {x:Str}{e:Expr}{es:List Expr}{xe:Ex}{p pos:Pos}:R c (.Call (.Name x p) (e::es) [] pos) xe->gP P R c (.Call (.Name x p) (e::es) [] pos) (.peek xe)
 |stk {a b:Expr}{op:Operator}{pos:Pos}:gP P R c (.BinOp a op b pos) .stk
 |rJ {a:Expr}{xa:Ex}{T:Str}{l:List (Addr×Bool)}{p pT pos:Pos}:R c a xa->("isinstance":Str)∈P.bn->c.sc.names.lookup ("isinstance":Str)=some .globalImplicit->(T,l)∈P.ups->c.sc.names.lookup T=some .globalImplicit->gP P R c (.Call (.Name "isinstance" p) [a,.Name T pT] [] pos) (.rJ xa l)
 |gG {x:Str}{f ir:Nat}{fi:Fi}{params:Arguments}{body:Expr}{scope:Scope}{xb:Ex}{ca:List Addr}{fp Cw pos:Pos}:P.fn[f]?=some fi->fi.name=x->(ca=P.g6/\c.sc.names.lookup x=some .globalImplicit\/ca=[])->c.q = "law" ->P.lam=true->Hj fi ir P.kt=true->pH c.sc scope=true->Cv params scope=true->
   R ⟨c.N,scope,false,Str.empty⟩ body xb->gP P R c (.Call (.Name x fp) [.Lambda params body scope Cw] [] pos) (.gG f ir ca xb)
 |comp {tg iter bH:Expr}{ifs:List Expr}{scope:Scope}{N':List Str}{k:Nat}{T:Tg}{it xe:Ex}{co:Option Ex}{pos:Pos}:pH c.sc scope=true->iG c.N N' scope k=true->N'.Nodup->zM ⟨N',scope,false,Str.empty⟩ tg T->(∀i∈T.ix,c.N.length<=i/\i<c.N.length+k)->
   lM P (R c) c iter it->pI (R ⟨N',scope,false,Str.empty⟩) ifs co->R ⟨N',scope,false,Str.empty⟩ bH xe->gP P R c (.ListComp bH [⟨tg,iter,ifs,0⟩] scope pos) (.comp c.N.length k T it co xe)
 |cz {t1 i1 tg iter bH:Expr}{f1 ifs:List Expr}{scope:Scope}{N':List Str}{k:Nat}{T1 T:Tg}{nq it xe:Ex}{c1 co:Option Ex}{pos:Pos}:pH c.sc scope=true->iG c.N N' scope k=true->N'.Nodup->zM ⟨N',scope,false,Str.empty⟩ t1 T1->zM ⟨N',scope,false,Str.empty⟩ tg T->(∀i∈T1.ix,c.N.length<=i/\i<c.N.length+k)->(∀i∈T.ix,c.N.length<=i/\i<c.N.length+k)->
   lM P (R c) c i1 nq->pI (R ⟨N',scope,false,Str.empty⟩) f1 c1->lM P (R ⟨N',scope,false,Str.empty⟩) ⟨N',scope,false,Str.empty⟩ iter it->pI (R ⟨N',scope,false,Str.empty⟩) ifs co->R ⟨N',scope,false,Str.empty⟩ bH xe->gP P R c (.ListComp bH [⟨t1,i1,f1,0⟩,⟨tg,iter,ifs,0⟩] scope pos) (.cz c.N.length k T1 nq c1 T it co xe)
 |eW {a:Expr}{xa:Ex}{lp p rp pos:Pos}:R c a xa->("range":Str)∈P.bn->c.sc.names.lookup ("range":Str)=some .globalImplicit->("list":Str)∈P.bn->c.sc.names.lookup ("list":Str)=some .globalImplicit->gP P R c (.Call (.Name "list" lp) [.Call (.Name "range" p) [a] [] rp] [] pos) (.eW xa)
 |append {x:Str}{i:Nat}{e:Expr}{xe:Ex}{pn bG aR:Pos}:c.N[i]?=some x->fZ c.sc x=true->aY x=true->R c e xe->(bG.endLine==aR.line)=true->gP P R c (.Call (.Attribute (.Name x pn) "append" bG) [e] [] aR) (.append i xe)
 |extend {x:Str}{i:Nat}{e:Expr}{xe:Ex}{pn bG aR:Pos}:c.N[i]?=some x->fZ c.sc x=true->aY x=true->R c e xe->(bG.endLine==aR.line)=true->gP P R c (.Call (.Attribute (.Name x pn) "extend" bG) [e] [] aR) (.extend i xe)
 |iF {x:Str}{i:Nat}{e:Expr}{xe:Ex}{pn bG aR:Pos}:c.N[i]?=some x->fZ c.sc x=true->aY x=true->R c e xe->(bG.endLine==aR.line)=true->gP P R c (.Call (.Attribute (.Name x pn) "pop" bG) [e] [] aR) (.iF i xe)
abbrev p0:Pos:=⟨0,0,0,0⟩
inductive mS(R:Expr->Ex->Prop)(fx:Str)(f ir:Nat)(ca:List Addr):List Lt->List Ex->Prop
 |nil:mS R fx f ir ca [] []
 |cons {l:Lt}{ls:List Lt}{e:Ex}{es:List Ex}:R (.Call (.Name fx p0) [l.ex] [] p0) (.gG f ir [] e)->mS R fx f ir ca ls es->mS R fx f ir ca (l::ls) (e::es)
structure Ym(c:Ct)(fx:Str)(scope:Scope)(N':List Str)(v:Str)(k j:Nat):Prop where
 lt:j<k
 bl:pH c.sc scope=true
 nm:iG c.N N' scope k=true
 nd:N'.Nodup
 ix:N'[c.N.length+j]?=some v
 st:d8 ⟨N',scope,false,Str.empty⟩ v=true
 vi:fZ scope v=true
 pl:aY v=true
 gl:scope.names.lookup fx=some .globalImplicit
inductive L7(RS:Stmt->Sm->Prop)(ce:Expr):Stmt->Bool->List Sm->Prop
 |ite {s:Stmt}{x:Sm}{pos:Pos}:RS s x->L7 RS ce (.If ce [s] [] pos) false [x]
 |ret {pos:Pos}:L7 RS ce (.Return (some ce) pos) true []
inductive Hl(P:Pg)(R:Expr->Ex->Prop)(RS:Stmt->Sm->Prop)(c:Ct):List Stmt->Sm->Prop
 |rows {y x mn a b tn:Str}{im it iy ia ib:Nat}{scope:Scope}{N':List Str}{k j:Nat}{lp px rp mp Vr GX ap py pa pb iO y1 y2 a1 a2 b1 b2 Vl Vn Og Oi Oh Jr Vm Vo GR rpos yr tp:Pos}{tk:Nat} :
   (c.N[im]?=some mn/\fZ c.sc mn=true/\aY mn=true)->(c.N[it]?=some tn/\fZ c.sc tn=true/\aY tn=true)->(c.N[iy]?=some y/\G9 c y py GX scope=true/\aY y=true)->
   ((c.N[ia]?=some a/\fZ c.sc a=true/\aY a=true)/\d8 c a=true)->((c.N[ib]?=some b/\fZ c.sc b=true/\aY b=true)/\d8 c b=true)->(ia≠iy/\ib≠iy/\ia≠ib)->
   (j<k/\pH c.sc scope=true/\iG c.N N' scope k=true/\N'.Nodup/\N'[c.N.length+j]?=some x/\d8 ⟨N',scope,false,Str.empty⟩ x=true)->(("range":Str)∈P.bn/\c.sc.names.lookup ("range":Str)=some .globalImplicit)->(Og.endLine==Oh.line)=true->(Oi.endLine==Jr.line)=true->
   Hl P R RS c [.Assign [.Name y py] (.ListComp (.List [] lp) [⟨.Name x px,.Call (.Name "range" rp) [.Name mn mp] [] Vr,[],0⟩] scope GX) ap,.For (.Tuple [.Name a pa,.Name b pb] tk iO) (.Name tn tp) [.Expr (.Call (.Attribute (.Subscript (.Name y y1) (.Name a a1) Vl) "append" Og) [.Name b b1] [] Oh) Vm,.Expr (.Call (.Attribute (.Subscript (.Name y y2) (.Name b b2) Vn) "append" Oi) [.Name a a2] [] Jr) Vo] [] GR,.Return (some (.Name y yr)) rpos] (.rows im it iy ia ib)
 |mk {y v fx:Str}{ic f ir:Nat}{l:Lt}{ls:List Lt}{e:Ex}{es:List Ex}{ss:List Stmt}{st:Stmt}{scope:Scope}{N':List Str}{k j:Nat}{qH:Expr}{op:CmpOp}{rhs:Ex}{ret:Bool}{b:List Sm}{py lp pos fp vp cp tp ip GX cmp:Pos} :
   c.N[ic]?=some y->d8 c y=true->fZ c.sc y=true->aY y=true->xU y ss ls->mS R fx f ir P.g6 (l::ls) (e::es)->ls.length<900->Ym c fx scope N' v k j->R qH rhs->behindInMarks op qH=false->
   L7 RS (.Compare (.ListComp (.Call (.Name fx fp) [.Name v vp] [] cp) [⟨.Name v tp,.Name y ip,[],0⟩] scope GX) [op] [qH] cmp) st ret b->
   Hl P R RS c (.Assign [.Name y py] (.List [l.ex] lp) pos::(ss++[st])) (.calls ic (.refs f ir P.g6 (e::es)) op rhs ret b)
inductive pK(RG:List Stmt->Sm->Prop)(RS:Stmt->Sm->Prop):List Stmt->List Sm->Prop
 |nil:pK RG RS [] []
 |grp {ss rest:List Stmt}{x:Sm}{xs:List Sm}:RG ss x->pK RG RS rest xs->pK RG RS (ss++rest) (x::xs)
 |cons {s:Stmt}{ss:List Stmt}{x:Sm}{xs:List Sm}:RS s x->pK RG RS ss xs->pK RG RS (s::ss) (x::xs)
inductive jE(P:Pg)(R:Expr->Ex->Prop)(RS:Stmt->Sm->Prop)(c:Ct):Stmt->Sm->Prop
 |ret {e:Expr}{x:Ex}{pos:Pos}:R e x->jE P R RS c (.Return (some e) pos) (.ret x)
 |expr {e:Expr}{x:Ex}{pos:Pos}:R e x->(∀a b s p,e≠.ListComp a b s p)->jE P R RS c (.Expr e pos) (.expr x)
 |set {y:Str}{i:Nat}{e:Expr}{x:Ex}{py pos:Pos}:c.N[i]?=some y->d8 c y=true->R e x->(∀a b s p,e=.ListComp a b s p->G9 c y py p s=false)->jE P R RS c (.Assign [.Name y py] e pos) (.set i x)
 |setC {y:Str}{i:Nat}{a:Expr}{b:List Comprehension}{s:Scope}{p:Pos}{n kk:Nat}{T:Tg}{it:Ex}{co:Option Ex}{x:Ex}{py pos:Pos}:c.N[i]?=some y->G9 c y py p s=true->R (.ListComp a b s p) (.comp n kk T it co x)->jE P R RS c (.Assign [.Name y py] (.ListComp a b s p) pos) (.setC i (.comp n kk T it co x))
 |Om {y:Str}{i:Nat}{a:Expr}{b:List Comprehension}{s:Scope}{p:Pos}{n kk:Nat}{T1 T:Tg}{nq it:Ex}{c1 co:Option Ex}{x:Ex}{py pos:Pos}:c.N[i]?=some y->G9 c y py p s=true->R (.ListComp a b s p) (.cz n kk T1 nq c1 T it co x)->jE P R RS c (.Assign [.Name y py] (.ListComp a b s p) pos) (.setC i (.cz n kk T1 nq c1 T it co x))
 |tgt {es:List Expr}{k:Nat}{pt pos:Pos}{T:Tg}{e:Expr}{x:Ex}:zM c (.Tuple es k pt) T->R e x->(∀vs k p,e≠.Tuple vs k p)\/Hf c es e=true->(∀a b s p,e≠.ListComp a b s p)->jE P R RS c (.Assign [.Tuple es k pt] e pos) (.tgt T x)
 |item {y:Str}{i:Nat}{ix e:Expr}{xj x:Ex}{pn bJ pos:Pos}:c.N[i]?=some y->fZ c.sc y=true->aY y=true->R ix xj->R e x->(∀a b s p,e≠.ListComp a b s p)->jE P R RS c (.Assign [.Subscript (.Name y pn) ix bJ] e pos) (.item i xj x)
 |items2 {x y:Str}{i j:Nat}{ix iy e:Expr}{xi yi xe:Ex}{pn Gh bJ iD pt pos:Pos}{kt:Nat}:c.N[i]?=some x->fZ c.sc x=true->aY x=true->c.N[j]?=some y->fZ c.sc y=true->aY y=true->R ix xi->R iy yi->R e xe->(∀a b s p,e≠.ListComp a b s p)->jE P R RS c (.Assign [.Tuple [.Subscript (.Name x pn) ix bJ,.Subscript (.Name y Gh) iy iD] kt pt] e pos) (.items2 i xi j yi xe)
 |ite {t:Expr}{a b:List Stmt}{xt:Ex}{xa xb:List Sm}{pos:Pos}:R t xt->pK (Hl P R RS c) RS a xa->pK (Hl P R RS c) RS b xb->jE P R RS c (.If t a b pos) (.ite xt xa xb)
 |loop {tg iter:Expr}{T:Tg}{it:Ex}{b:List Stmt}{xb:List Sm}{pos:Pos}:zM c tg T->lM P R c iter it->pK (Hl P R RS c) RS b xb->jE P R RS c (.For tg iter b [] pos) (.loop T it xb)
 |while {t:Expr}{xt:Ex}{b:List Stmt}{xb:List Sm}{pos:Pos}:R t xt->pK (Hl P R RS c) RS b xb->jE P R RS c (.While t b [] pos) (.while xt xb)
 |raise {x:Str}{ci:Nat}{m:Expr}{xm:Ex}{np aR pos:Pos}:P.cls[ci]?=some x->c.sc.names.lookup x=some .globalImplicit->R m xm->jE P R RS c (.Raise (some (.Call (.Name x np) [m] [] aR)) none pos) (.raise ci xm)
 |stuck {s:Stmt}:jE P R RS c s .stuck
theorem ak{a b:Bool}(h:(a&&b)=true):a=true/\b=true:=by cases a <;> cases b <;> first |exact⟨rfl,rfl⟩ |cases h
theorem dec{p:Prop} [Decidable p] (h:decide p=true):p:=lS h
theorem tF{b:Bool}(h:(!b)=true):b=false:=by cases b <;> first |rfl |cases h
theorem tG{α:Type}{l:List α}(h:l.isEmpty=true):l=[]:=by cases l with |nil=>rfl |cons _ _=>cases h
noncomputable def Vt(c:Ct)(x:Str):Bool:=decide (c.sc.names.lookup x=some .globalImplicit)
def yc(P:Pg)(c:Ct)(x:Str):Bool:=P.bn.contains x&&Vt c x
theorem aW{P:Pg}{c:Ct}{x:Str}(h:yc P c x=true):x∈P.bn/\c.sc.names.lookup x=some .globalImplicit:=⟨AS.mp (ak h).1,dec (ak h).2⟩
noncomputable def nm(c:Ct)(i:Nat):Str:=c.N.getD i Str.empty
def jF(c:Ct)(i:Nat):Bool:=decide (c.N[i]?=some (nm c i))&&(fZ c.sc (nm c i)&&aY (nm c i))
def ZX(c:Ct)(i:Nat):Bool:=decide (c.N[i]?=some (nm c i))&&d8 c (nm c i)
theorem cT{c:Ct}{i:Nat}(h:jF c i=true):c.N[i]?=some (nm c i)/\fZ c.sc (nm c i)=true/\aY (nm c i)=true:=⟨dec (ak h).1,(ak (ak h).2).1,(ak (ak h).2).2⟩
def bang(x:Str):Str:=⟨x.cps.push 33⟩
def Yn(n:Nat):Str:=⟨(List.replicate n 33).toArray⟩
noncomputable def iH(scope:Scope):List Str:=scope.names.filterMap λy=>if y.2==.local then some y.1 else none
def pL(N:List Str)(scope:Scope):List Str:=(N.map λy=>if scope.names.lookup y==some .local then bang y else y)++iH scope++[Yn (N.length+1)]
noncomputable def pM:List Str->Bool
 | []=>true
 |x::l=>!l.contains x&&pM l
theorem gi:∀{l:List Str},pM l=true->l.Nodup
 | [],_=>qS
 |x::l,h=>by
  have h:(!l.contains x&&pM l)=true:=h;refine hV.mpr ⟨λhm=>?_,gi (ak h).2⟩
  have:=(ak h).1;rw[AS.mpr hm]at this;cases this
noncomputable def kids(e:Expr):List Expr:=match e with
 |.BoolOp _ vs _=>vs
 |.BinOp a _ b _=>[a,b]
 |.UnaryOp _ a _=>[a]
 |.Lambda _ b _ _=>[b]
 |.IfExp t a b _=>[t,a,b]
 |.ListComp e gs _ _=>e::gs.flatMap λg=>g.target::g.iter::g.ifs
 |.Compare a _ bs _=>a::bs
 |.Call f as ks _=>f::(as++ks.map (·.value))
 |.FormattedValue v _ _ _=>[v]
 |.JoinedStr vs _=>vs
 |.Attribute v _ _=>[v]
 |.Subscript a b _=>[a,b]
 |.List es _=>es
 |.Tuple es _ _=>es
 |.Slice a b s p=>[a.getD (.Name Str.empty p),b.getD (.Name Str.empty p),s.getD (.Name Str.empty p)]
 |_=>[]
def kid(e:Expr)(i:Nat):Expr:=(kids e).getD i e
noncomputable def yd(e:Expr):Nat:=match e with |.Constant _ k _=>k |.Tuple _ k _=>k |_=>0
noncomputable def fQ(e:Expr):Scope:=match e with |.Lambda _ _ s _=>s |.ListComp _ _ s _=>s |_=>aE (.Pass e.pos)
noncomputable def Sv(e:Expr):Arguments:=match e with |.Lambda a _ _ _=>a |_=>default
def opT(e:Expr):Operator:=match e with |.BinOp _ o _ _=>o |_=>.Add
def pN(c:Ct)(t:Expr):Ct:=⟨pL c.N (fQ t),fQ t,false,Str.empty⟩
def Sw(c:Ct)(t:Expr):Ct:=⟨c.N,fQ t,false,Str.empty⟩
noncomputable def tH(P:Pg)(i:Nat):Str:=match P.fn[i]? with |some fi=>fi.name |none=>Str.empty
theorem zQ{P:Pg}{i:Nat}(h:P.fn[i]?.isSome=true):∃fi,P.fn[i]?=some fi/\fi.name=tH P i:=by
 unfold tH;cases e:P.fn[i]? with
 |none=>rw[e]at h;cases h
 |some g=>exact⟨g,rfl,rfl⟩
section
variable{R:Expr->Ex->Prop}{s:Ex->Expr->Expr}{f:Ex->Expr->Bool}(hf:∀{x t},f x t=true->R (s x t) x)
include hf
noncomputable def qK(s:Ex->Expr->Expr)(t:Expr):Nat->List Ex->List Expr
 |_,[]=>[]
 |i,x::xs=>s x (kid t i)::qK s t (i+1) xs
noncomputable def Ma(f:Ex->Expr->Bool)(t:Expr):Nat->List Ex->Bool
 |_,[]=>true
 |i,x::xs=>f x (kid t i)&&Ma f t (i+1) xs
theorem jG{i:Nat}{xs:List Ex}(h:Ma f t i xs=true):jD R (qK s t i xs) xs:=by
 induction xs generalizing i with
 |nil=>exact .nil
 |cons x xs ih=>exact .cons (hf (ak h).1) (ih (ak h).2)
noncomputable def Sx(s:Ex->Expr->Expr)(t:Expr)(x:Option Ex):Option Expr:=match x with |some x=>some (s x t) |none=>none
noncomputable def Sy(f:Ex->Expr->Bool)(t:Expr)(x:Option Ex):Bool:=match x with |some x=>f x t |none=>true
theorem Ho{x:Option Ex}(h:Sy f t x=true):Cu R (Sx s t x) x:=by
 cases x with
 |none=>exact .none
 |some x=>exact .some (hf h)
noncomputable def Mf(s:Ex->Expr->Expr)(t:Expr)(x:Option Ex):List Expr:=match x with |some x=>[s x t] |none=>[]
theorem yf{x:Option Ex}(h:Sy f t x=true):pI R (Mf s t x) x:=by
 cases x with
 |none=>exact .none
 |some x=>exact .some (hf h)
end
noncomputable def Hq(s:Ex->Expr->Expr)(x:Ex)(t:Expr):Expr:=match x with
 |.cR a=>.Call (.Name "range" (kid t 0).pos) [s a (kid t 1)] [] t.pos
 |.gW a b=>.Call (.Name "range" (kid t 0).pos) [s a (kid t 1),s b (kid t 2)] [] t.pos
 |.pB a b d=>.Call (.Name "range" (kid t 0).pos) [s a (kid t 1),s b (kid t 2),s d (kid t 3)] [] t.pos
 |.zip a b=>.Call (.Name "zip" (kid t 0).pos) [s a (kid t 1),s b (kid t 2)] [] t.pos
 |.enum a=>.Call (.Name "enumerate" (kid t 0).pos) [s a (kid t 1)] [] t.pos
 |x=>s x t
def Yo(P:Pg)(c:Ct)(f:Ex->Expr->Bool)(x:Ex)(t:Expr):Bool:=match x with
 |.cR a=>yc P c "range" && f a (kid t 1)
 |.gW a b=>yc P c "range" && (f a (kid t 1)&&f b (kid t 2))
 |.pB a b d=>yc P c "range" && (f a (kid t 1)&&(f b (kid t 2)&&f d (kid t 3)))
 |.zip a b=>yc P c "zip" && (f a (kid t 1)&&f b (kid t 2))
 |.enum a=>yc P c "enumerate" && f a (kid t 1)
 |x=>f x t
theorem tK{P:Pg}{R:Expr->Ex->Prop}{s:Ex->Expr->Expr}{f:Ex->Expr->Bool}(hf:∀{x t},f x t=true->R (s x t) x){c:Ct}{x:Ex}{t:Expr}(h:Yo P c f x t=true):lM P R c (Hq s x t) x:=by
 cases x
 case cR a=>exact .cR (hf (ak h).2) (aW (ak h).1).1 (aW (ak h).1).2
 case gW a b=>exact .gW (hf (ak (ak h).2).1) (hf (ak (ak h).2).2) (aW (ak h).1).1 (aW (ak h).1).2
 case pB a b d=>exact .pB (hf (ak (ak h).2).1) (hf (ak (ak (ak h).2).2).1) (hf (ak (ak (ak h).2).2).2) (aW (ak h).1).1 (aW (ak h).1).2
 case zip a b=>exact .zip (hf (ak (ak h).2).1) (hf (ak (ak h).2).2) (aW (ak h).1).1 (aW (ak h).1).2
 case enum a=>exact .enum (hf (ak h).2) (aW (ak h).1).1 (aW (ak h).1).2
 all_goals exact .seq (hf h)
noncomputable def Sz(t:Expr):Nat->List String->List Expr
 |_,[]=>[]
 |i,n::ns=>.Name (Str.ofString n) (kid t i).pos::Sz t (i+1) ns
def okY(P:Pg)(c:Ct):List String->Bool
 | []=>true
 |n::ns=>(qJ.contains n&&yc P c (Str.ofString n))&&okY P c ns
theorem SJ{P:Pg}{c:Ct}{t:Expr}{i:Nat}{ns:List String}(h:okY P c ns=true):x9 P c (Sz t i ns) ns:=by
 induction ns generalizing i with
 |nil=>exact .nil
 |cons n ns ih=>exact .cons (aW (ak (ak h).1).2).1 (aW (ak (ak h).1).2).2 rfl (AS.mp (ak (ak h).1).1) (ih (ak h).2)
noncomputable def Mg(c:Ct)(t:Expr):Nat->List Nat->List Expr
 |_,[]=>[]
 |j,i::is=>.Name (nm c i) (kid t j).pos::Mg c t (j+1) is
def okN(c:Ct):List Nat->Bool
 | []=>true
 |i::is=>ZX c i&&okN c is
theorem SM{c:Ct}{t:Expr}{j:Nat}{is:List Nat}(h:okN c is=true):Cr c (Mg c t j is) is:=by
 induction is generalizing j with
 |nil=>exact .nil
 |cons i is ih=>exact .cons (dec (ak (ak h).1).1) (ak (ak h).1).2 (ih (ak h).2)
def Cy(c:Ct)(T:Tg)(t:Expr):Expr:=match T with
 |.nm i=>.Name (nm c i) t.pos
 |.tp is=>.Tuple (Mg c t 0 is) (yd t) t.pos
theorem pO{c:Ct}{T:Tg}{t:Expr}(h:okN c T.ix=true):zM c (Cy c T t) T:=by
 cases T with
 |nm i=>exact .nm (dec (ak (ak h).1).1) (ak (ak h).1).2
 |tp is=>exact .tp (SM h)
noncomputable def SN(a b:D):Bool:=match a with |.int i=>(match b with |.int j=>decide (i=j) |_=>false) |_=>false
theorem Mh(h:SN a b=true):a=b:=by
 cases a with
 |int i=>cases b with
  |int j=>exact congrArg D.int (dec (show decide (i=j)=true from h))
  |_=>exact nt h
 |_=>exact nt h
def ZZ(y:Str)(d:D):List (Str×D)->Bool
 | []=>false
 |p::l=>(decide (p.1=y)&&SN p.2 d)||ZZ y d l
theorem SQ{y:Str}{d:D}{l:List (Str×D)}(h:ZZ y d l=true):(y,d)∈l:=by
 induction l with
 |nil=>cases h
 |cons p l ih=>
  obtain⟨x,d'⟩:=p;have hh:((decide (x=y)&&SN d' d)||ZZ y d l)=true:=h
  rcases AF _ _▸hh with h |h
  . obtain⟨h1,h2⟩:=ak h;obtain rfl:=dec h1;rw[Mh h2];exact dA
  . exact a9 _ (ih h)
noncomputable def cstD(d:D):Const:=match d with |.int i=>.int i |.bl b=>.bool b |.str y=>.str y |_=>.none
noncomputable def cstK(d:D):Bool:=match d with |.int _=>true |.bl _=>true |.str _=>true |.non=>true |_=>false
def Hr(d:D)(t:Expr):Expr:=match zO t with |some y=>.Name y t.pos |none=>.Constant (cstD d) (yd t) t.pos
def okV(P:Pg)(c:Ct)(d:D)(t:Expr):Bool:=match zO t with |some y=>Vt c y&&ZZ y d P.ct |none=>cstK d
theorem SX{P:Pg}{R:Ct->Expr->Ex->Prop}{c:Ct}{d:D}{t:Expr}(h:okV P c d t=true):gP P R c (Hr d t) (.val d):=by
 unfold okV at h;unfold Hr;cases e:zO t with
 |some y=>rw[e]at h;exact .glob (SQ (ak h).2) (dec (ak h).1)
 |none=>
  rw[e]at h;cases d with
  |int i=>exact .int
  |bl i=>exact .bool
  |str i=>exact .str
  |non=>exact .none
  |_=>exact nt h
def blK(c:Ct)(t:Expr)(k:Nat):Bool:=pH c.sc (fQ t)&&(iG c.N (pL c.N (fQ t)) (fQ t) k&&pM (pL c.N (fQ t)))
def Z0(c:Ct)(k:Nat)(T:Tg):Bool:=T.ix.all λi=>decide (c.N.length<=i/\i<c.N.length+k)
theorem yg{c:Ct}{k:Nat}{T:Tg}(h:Z0 c k T=true):∀i∈T.ix,c.N.length<=i/\i<c.N.length+k:=λi hi=>dec (hZ.mp h i hi)
def o1(x:Option Ex):Nat:=match x with |some _=>1 |none=>0
def Yp(P:Pg)(i ir:Nat):Bool:=match P.fn[i]? with |some fi=>Hj fi ir P.kt |none=>false
def Oo(e:Expr):Bool:=match e with |.Call f es ks _=>(zO f).isSome&&(!es.isEmpty&&ks.isEmpty) |_=>false
theorem vM{e:Expr}(h:Oo e=true):∃x p a es pos,e=.Call (.Name x p) (a::es) [] pos:=by
 cases e
 case Call f es ks pos=>
  obtain⟨h1,h2⟩:=ak (show ((zO f).isSome&&(!es.isEmpty&&ks.isEmpty))=true from h);obtain⟨x,hx⟩:=Option.isSome_iff_exists.mp h1;obtain⟨p,rfl⟩:=pJ hx;cases es with
  |nil=>cases (ak h2).1
  |cons a es=>rw[tG (ak h2).2];exact⟨x,p,a,es,pos,rfl⟩
 all_goals exact nt h
def S0(P:Pg)(s:Ct->Ex->Expr->Expr)(c:Ct)(x:Ex)(t:Expr):Expr:=match x with
 |.val d=>Hr d t
 |.slot i=>.Name (nm c i) t.pos
 |.bin op a b=>.BinOp (s c a (kid t 0)) op (s c b (kid t 1)) t.pos
 |.cmp op a b=>.Compare (s c a (kid t 0)) [op] [s c b (kid t 1)] t.pos
 |.chain a ops xs=>.Compare (s c a (kid t 0)) ops (qK (s c) t 1 xs) t.pos
 |.neg a=>.UnaryOp .USub (s c a (kid t 0)) t.pos
 |.not a=>.UnaryOp .Not (s c a (kid t 0)) t.pos
 |.and xs=>.BoolOp .And (qK (s c) t 0 xs) t.pos
 |.or xs=>.BoolOp .Or (qK (s c) t 0 xs) t.pos
 |.ite a b d=>.IfExp (s c a (kid t 0)) (s c b (kid t 1)) (s c d (kid t 2)) t.pos
 |.tup xs=>.Tuple (qK (s c) t 0 xs) (yd t) t.pos
 |.lst xs=>.List (qK (s c) t 0 xs) t.pos
 |.ix a b=>.Subscript (s c a (kid t 0)) (s c b (kid t 1)) t.pos
 |.slice a lo hi=>.Subscript (s c a (kid t 0)) (.Slice (Sx (s c) (kid (kid t 1) 0) lo) (Sx (s c) (kid (kid t 1) 1) hi) none (kid t 1).pos) t.pos
 |.call i xs=>.Call (.Name (tH P i) (kid t 0).pos) (qK (s c) t 1 xs) [] t.pos
 |.blt b xs=>.Call (.Name (Yb b).1 (kid t 0).pos) (qK (s c) t 1 xs) [] t.pos
 |.rH a n=>.Call (.Name "isinstance" (kid t 0).pos) [s c a (kid t 1),.Name (Str.ofString n) (kid t 2).pos] [] t.pos
 |.qI a ns=>.Call (.Name "isinstance" (kid t 0).pos) [s c a (kid t 1),.Tuple (Sz (kid t 2) 0 ns) (yd (kid t 2)) (kid t 2).pos] [] t.pos
 |.comp _ _ T it co xe=>.ListComp (s (pN c t) xe (kid t 0)) [⟨Cy (pN c t) T (kid t 1),Hq (s c) it (kid t 2),Mf (s (pN c t)) (kid t 3) co,0⟩] (fQ t) t.pos
 |.cz _ _ T1 nq c1 T it co xe=>.ListComp (s (pN c t) xe (kid t 0)) [⟨Cy (pN c t) T1 (kid t 1),Hq (s c) nq (kid t 2),Mf (s (pN c t)) (kid t 3) c1,0⟩,⟨Cy (pN c t) T (kid t (3+o1 c1)),Hq (s (pN c t)) it (kid t (4+o1 c1)),Mf (s (pN c t)) (kid t (5+o1 c1)) co,0⟩] (fQ t) t.pos
 |.gF a b=>.Subscript (s c a (kid t 0)) (.Slice (some (s c b (kid (kid t 1) 0))) none (some (.Constant (.int 2) (yd (kid (kid t 1) 2)) (kid (kid t 1) 2).pos)) (kid t 1).pos) t.pos
 |.emp=>.Dict [] [] t.pos
 |.peek xe=>s c xe t
 |.stk=>.BinOp (kid t 0) (opT t) (kid t 1) t.pos
 |.rJ a _=>.Call (.Name "isinstance" (kid t 0).pos) [s c a (kid t 1),.Name ((zO (kid t 2)).getD Str.empty) (kid t 2).pos] [] t.pos
 |.gG i _ _ xb=>.Call (.Name (tH P i) (kid t 0).pos) [.Lambda (Sv (kid t 1)) (s (Sw c (kid t 1)) xb (kid (kid t 1) 0)) (fQ (kid t 1)) (kid t 1).pos] [] t.pos
 |.eW a=>.Call (.Name "list" (kid t 0).pos) [.Call (.Name "range" (kid (kid t 1) 0).pos) [s c a (kid (kid t 1) 1)] [] (kid t 1).pos] [] t.pos
 |.append i x=>.Call (.Attribute (.Name (nm c i) (kid (kid t 0) 0).pos) "append" (kid t 0).pos) [s c x (kid t 1)] [] t.pos
 |.extend i x=>.Call (.Attribute (.Name (nm c i) (kid (kid t 0) 0).pos) "extend" (kid t 0).pos) [s c x (kid t 1)] [] t.pos
 |.iF i x=>.Call (.Attribute (.Name (nm c i) (kid (kid t 0) 0).pos) "pop" (kid t 0).pos) [s c x (kid t 1)] [] t.pos
 |_=>t
noncomputable def Vu(t:Expr):Bool:=(kid t 0).pos.endLine==t.pos.line
def ok1(P:Pg)(s:Ct->Ex->Expr->Expr)(f:Ct->Ex->Expr->Bool)(c:Ct)(x:Ex)(t:Expr):Bool:=match x with
 |.val d=>okV P c d t
 |.slot i=>jF c i
 |.bin _ a b=>f c a (kid t 0)&&f c b (kid t 1)
 |.cmp op a b=>f c a (kid t 0)&&(f c b (kid t 1)&&!behindInMarks op (s c b (kid t 1)))
 |.chain a ops xs=>f c a (kid t 0)&&(Ma (f c) t 1 xs&&(!lastMarks ops (qK (s c) t 1 xs)&&(decide (2<=ops.length)&&decide (2<=xs.length))))
 |.neg a=>f c a (kid t 0)
 |.not a=>f c a (kid t 0)
 |.and xs=>Ma (f c) t 0 xs
 |.or xs=>Ma (f c) t 0 xs
 |.ite a b d=>f c a (kid t 0)&&(f c b (kid t 1)&&f c d (kid t 2))
 |.tup xs=>Ma (f c) t 0 xs
 |.lst xs=>Ma (f c) t 0 xs
 |.ix a b=>f c a (kid t 0)&&f c b (kid t 1)
 |.slice a lo hi=>f c a (kid t 0)&&(Sy (f c) (kid (kid t 1) 0) lo&&Sy (f c) (kid (kid t 1) 1) hi)
 |.call i xs=>P.fn[i]?.isSome&&(Vt c (tH P i)&&(Ma (f c) t 1 xs&&!xs.isEmpty))
 |.blt b xs=>yc P c (Yb b).1&&(Ma (f c) t 1 xs&&!xs.isEmpty)
 |.rH a n=>yc P c "isinstance" && (f c a (kid t 1)&&(qJ.contains n&&yc P c (Str.ofString n)))
 |.qI a ns=>yc P c "isinstance" && (f c a (kid t 1)&&(decide (ns.length<=100)&&okY P c ns))
 |.comp n k T it co xe=>decide (n=c.N.length)&&(blK c t k&&(okN (pN c t) T.ix&&(Z0 c k T&&(Yo P c (f c) it (kid t 2)&&(Sy (f (pN c t)) (kid t 3) co&&f (pN c t) xe (kid t 0))))))
 |.cz n k T1 nq c1 T it co xe=>decide (n=c.N.length)&&(blK c t k&&((okN (pN c t) T1.ix&&okN (pN c t) T.ix)&&((Z0 c k T1&&Z0 c k T)&&((Yo P c (f c) nq (kid t 2)&&Sy (f (pN c t)) (kid t 3) c1)&&((Yo P (pN c t) (f (pN c t)) it (kid t (4+o1 c1))&&Sy (f (pN c t)) (kid t (5+o1 c1)) co)&&f (pN c t) xe (kid t 0))))))
 |.gF a b=>f c a (kid t 0)&&f c b (kid (kid t 1) 0)
 |.emp=>true
 |.peek xe=>Oo (s c xe t)&&f c xe t
 |.stk=>true
 |.rJ a l=>yc P c "isinstance" && (f c a (kid t 1)&&(Vt c ((zO (kid t 2)).getD Str.empty)&&decide (((zO (kid t 2)).getD Str.empty,l)∈P.ups)))
 |.gG i ir ca xb=>P.fn[i]?.isSome&&((decide (ca=P.g6)&&Vt c (tH P i)||ca.isEmpty)&&((decide (c.q = "law")&&P.lam)&&(Yp P i ir&&(pH c.sc (fQ (kid t 1))&&(Cv (Sv (kid t 1)) (fQ (kid t 1))&&f (Sw c (kid t 1)) xb (kid (kid t 1) 0))))))
 |.eW a=>(yc P c "range" && yc P c "list")&&f c a (kid (kid t 1) 1)
 |.append i x=>Vu t&&(jF c i&&f c x (kid t 1))
 |.extend i x=>Vu t&&(jF c i&&f c x (kid t 1))
 |.iF i x=>Vu t&&(jF c i&&f c x (kid t 1))
 |_=>false
def iI(P:Pg):Nat->Ct->Ex->Expr->Expr
 | 0=>λ_ _ t=>t
 |n+1=>S0 P (iI P n)
def qL(P:Pg):Nat->Ct->Ex->Expr->Bool
 | 0=>λ_ _ _=>false
 |n+1=>ok1 P (iI P n) (qL P n)
def Cm(P:Pg)(c:Ct)(e:Expr)(x:Ex):Prop:=∃n t,e=iI P n c x t/\qL P n c x t=true
theorem Cm.mk{P:Pg}{n:Nat}{c:Ct}{x:Ex}{t:Expr}(h:qL P n c x t=true):Cm P c (iI P n c x t) x:=⟨n,t,rfl,h⟩
theorem Cm.out(h:Cm P c e x):gP P (Cm P) c e x:=by
 obtain⟨n,t,rfl,h⟩:=h;cases n with
 |zero=>cases h
 |succ n=>
 replace h:ok1 P (iI P n) (qL P n) c x t=true:=h;show gP P (Cm P) c (S0 P (iI P n) c x t) x;cases x
 case val d=>exact SX h
 case slot i=>exact .var (cT h).1 (cT h).2.1 (cT h).2.2
 case bin op a b=>exact .bin (.mk (ak h).1) (.mk (ak h).2)
 case cmp op a b=>exact .cmp (.mk (ak h).1) (.mk (ak (ak h).2).1) (tF (ak (ak h).2).2)
 case chain a ops xs=>
  obtain⟨h1,h2⟩:=ak h;obtain⟨h3,h4⟩:=ak h2;obtain⟨h5,h6⟩:=ak h4;have l1:=dec (ak h6).1;have l2:=dec (ak h6).2
  match ops,l1,xs,l2,h3,h5 with
  |_::_::_,_,_::_::_,_,h3,h5=>exact .chain (.mk h1) (jG (R:=Cm P c) .mk h3) (tF h5)
 case neg a=>exact .neg (.mk h)
 case not a=>exact .not (.mk h)
 case and xs=>exact .and (jG (R:=Cm P c) .mk h)
 case or xs=>exact .or (jG (R:=Cm P c) .mk h)
 case ite a b d=>exact .ite (.mk (ak h).1) (.mk (ak (ak h).2).1) (.mk (ak (ak h).2).2)
 case tup xs=>exact .tup (jG (R:=Cm P c) .mk h)
 case lst xs=>exact .lst (jG (R:=Cm P c) .mk h)
 case ix a b=>exact .ix (.mk (ak h).1) (.mk (ak h).2)
 case slice a lo hi=>exact .slice (.mk (ak h).1) (Ho (R:=Cm P c) .mk (ak (ak h).2).1) (Ho (R:=Cm P c) .mk (ak (ak h).2).2)
 case call i xs=>
  obtain⟨h1,h2⟩:=ak h;obtain⟨h3,h4⟩:=ak h2;obtain⟨fi,q1,q2⟩:=zQ h1;cases xs with
  |nil=>cases (ak h4).2
  |cons x xs=>exact .call q1 q2 (dec h3) (jG (R:=Cm P c) .mk (ak h4).1)
 case blt b xs=>
  cases xs with
  |nil=>cases (ak (ak h).2).2
  |cons x xs=>exact .blt rfl (aW (ak h).1).1 (aW (ak h).1).2 (jG (R:=Cm P c) .mk (ak (ak h).2).1)
 case rH a n=>exact .rH (.mk (ak (ak h).2).1) (aW (ak h).1).1 (aW (ak h).1).2 (aW (ak (ak (ak h).2).2).2).1 (aW (ak (ak (ak h).2).2).2).2 rfl (AS.mp (ak (ak (ak h).2).2).1)
 case qI a ns=>exact .qI (.mk (ak (ak h).2).1) (aW (ak h).1).1 (aW (ak h).1).2 (dec (ak (ak (ak h).2).2).1) (SJ (ak (ak (ak h).2).2).2)
 case comp n' k T it co xe=>obtain⟨h1,a1⟩:=ak h;clear h;obtain⟨h2,a2⟩:=ak a1;obtain⟨h3,a3⟩:=ak a2;obtain⟨h4,a4⟩:=ak a3;obtain⟨h5,a5⟩:=ak a4;obtain rfl:=dec h1;exact .comp (ak h2).1 (ak (ak h2).2).1 (gi (ak (ak h2).2).2) (pO h3) (yg h4) (tK (R:=Cm P c) .mk h5) (yf (R:=Cm P (pN c t)) .mk (ak a5).1) (.mk (ak a5).2)
 case cz n' k T1 nq c1 T it co xe=>obtain⟨h1,a1⟩:=ak h;clear h;obtain⟨h2,a2⟩:=ak a1;obtain⟨h3,a3⟩:=ak a2;obtain⟨h4,a4⟩:=ak a3;obtain⟨h5,a5⟩:=ak a4;obtain⟨h6,h7⟩:=ak a5;obtain rfl:=dec h1;exact .cz (ak h2).1 (ak (ak h2).2).1 (gi (ak (ak h2).2).2) (pO (ak h3).1) (pO (ak h3).2) (yg (ak h4).1) (yg (ak h4).2) (tK (R:=Cm P c) .mk (ak h5).1) (yf (R:=Cm P (pN c t)) .mk (ak h5).2) (tK (R:=Cm P (pN c t)) .mk (ak h6).1) (yf (R:=Cm P (pN c t)) .mk (ak h6).2) (.mk h7)
 case gF a b=>exact .gF (.mk (ak h).1) (.mk (ak h).2)
 case emp=>exact .emp
 case peek xe=>have q:=Cm.mk (P:=P) (ak h).2;revert q;show Cm P c (iI P n c xe t) xe->gP P (Cm P) c (iI P n c xe t) (.peek xe);obtain⟨x,p,a,es,pos,e⟩:=vM (ak h).1;rw[e];exact .peek
 case stk=>exact .stk
 case rJ a l=>exact .rJ (.mk (ak (ak h).2).1) (aW (ak h).1).1 (aW (ak h).1).2 (dec (ak (ak (ak h).2).2).2) (dec (ak (ak (ak h).2).2).1)
 case gG i ir ca xb=>obtain⟨h1,k1⟩:=ak h;obtain⟨h2,k2⟩:=ak k1;obtain⟨h3,k3⟩:=ak k2;obtain⟨h5,k5⟩:=ak k3;obtain⟨fi,e1,e2⟩:=zQ h1;unfold Yp at h5;rw[e1]at h5;exact .gG e1 e2 ((Bool.or_eq_true_iff.mp h2).imp (λh=>⟨dec (ak h).1,dec (ak h).2⟩) tG) (dec (ak h3).1) (ak h3).2 h5 (ak k5).1 (ak (ak k5).2).1 (.mk (ak (ak k5).2).2)
 case eW a=>exact .eW (.mk (ak h).2) (aW (ak (ak h).1).1).1 (aW (ak (ak h).1).1).2 (aW (ak (ak h).1).2).1 (aW (ak (ak h).1).2).2
 case append i x=>exact .append (cT (ak (ak h).2).1).1 (cT (ak (ak h).2).1).2.1 (cT (ak (ak h).2).1).2.2 (.mk (ak (ak h).2).2) (ak h).1
 case extend i x=>exact .extend (cT (ak (ak h).2).1).1 (cT (ak (ak h).2).1).2.1 (cT (ak (ak h).2).1).2.2 (.mk (ak (ak h).2).2) (ak h).1
 case iF i x=>exact .iF (cT (ak (ak h).2).1).1 (cT (ak (ak h).2).1).2.1 (cT (ak (ak h).2).1).2.2 (.mk (ak (ak h).2).2) (ak h).1
 all_goals exact nt h
abbrev Dw (P:Pg) (c:Ct) (es:List Expr) (xs:List Ex):Prop:=jD (Cm P c) es xs
abbrev CmO (P:Pg) (c:Ct) (e:Option Expr) (x:Option Ex):Prop:=Cu (Cm P c) e x
abbrev yh (P:Pg) (c:Ct) (es:List Expr) (x:Option Ex):Prop:=pI (Cm P c) es x
abbrev Vv (P:Pg) (c:Ct) (e:Expr) (x:Ex):Prop:=lM P (Cm P c) c e x
noncomputable def ek(t:Stmt):List Expr:=match t with
 |.Return o p=>[o.getD (.Name Str.empty p)]
 |.Assign ts e _=>e::ts
 |.AugAssign a _ e _=>[a,e]
 |.For a b _ _ _=>[a,b]
 |.While a _ _ _=>[a]
 |.If a _ _ _=>[a]
 |.Raise o _ p=>[o.getD (.Name Str.empty p)]
 |.Expr e _=>[e]
 |_=>[]
def aF(t:Stmt)(i:Nat):Expr:=(ek t).getD i (.Name Str.empty t.pos)
noncomputable def Cz(t:Stmt):List Stmt:=match t with |.For _ _ b _ _=>b |.While _ b _ _=>b |.If _ b _ _=>b |_=>[]
noncomputable def Z1(t:Stmt):List Stmt:=match t with |.If _ _ b _=>b |_=>[]
noncomputable def sg(l:List Stmt)(i:Nat):Stmt:=l.getD i (.Pass p0)
noncomputable def CG(k:Scope->Pos->Bool)(e:Expr):Bool:=match e with |.ListComp _ _ s p=>k s p |_=>false
def Yq(e:Expr):Bool:=match e with |.Tuple _ _ _=>false |_=>true
noncomputable def S8:Sm->Nat
 |.calls _ x _ _ _ _=>(match x with |.refs _ _ _ es=>es.length+1 |_=>0)
 |.rows _ _ _ _ _=>3
 |_=>0
def qM(fg:Sm->List Stmt->List Stmt)(fs:Sm->Stmt->Stmt):List Sm->List Stmt->List Stmt
 | [],_=>[]
 |x::xs,ss=>if 0<S8 x then fg x (ss.take (S8 x))++qM fg fs xs (ss.drop (S8 x))else fs x (sg ss 0)::qM fg fs xs ss.tail
def Jv(fg:Sm->List Stmt->Bool)(fs:Sm->Stmt->Bool):List Sm->List Stmt->Bool
 | [],_=>true
 |x::xs,ss=>if 0<S8 x then fg x (ss.take (S8 x))&&Jv fg fs xs (ss.drop (S8 x))else fs x (sg ss 0)&&Jv fg fs xs ss.tail
theorem S9{RG:List Stmt->Sm->Prop}{RS:Stmt->Sm->Prop}{sg':Sm->List Stmt->List Stmt}{kg:Sm->List Stmt->Bool}{ss':Sm->Stmt->Stmt}{ks:Sm->Stmt->Bool}(hg:∀{x ss},kg x ss=true->RG (sg' x ss) x)(hs:∀{x t},ks x t=true->RS (ss' x t) x){xs:List Sm}{ss:List Stmt}(h:Jv kg ks xs ss=true):pK RG RS (qM sg' ss' xs ss) xs:=by
 induction xs generalizing ss with
 |nil=>exact .nil
 |cons x xs ih=>
  unfold Jv at h;unfold qM;by_cases hx:0<S8 x
  .
   rw[fN hx]at h ⊢
   exact .grp (hg (ak h).1) (ih (ak h).2)
  .
   rw[gN hx]at h ⊢
   exact .cons (hs (ak h).1) (ih (ak h).2)
def Yr(y a b:Str)(t:Stmt):Stmt:=.Expr (.Call (.Attribute (.Subscript (.Name y (kid (kid (kid (aF t 0) 0) 0) 0).pos) (.Name a (kid (kid (kid (aF t 0) 0) 0) 1).pos) (kid (kid (aF t 0) 0) 0).pos) "append" (kid (aF t 0) 0).pos) [.Name b (kid (aF t 0) 1).pos] [] (aF t 0).pos) t.pos
noncomputable def Tc(e:Expr):Str:=(zO e).getD Str.empty
def bvK(c:Ct)(sc:Scope)(x:Str):Bool:=pH c.sc sc&&(iG c.N (pL c.N sc) sc (iH sc).length&&(pM (pL c.N sc)&&(decide ((iH sc).idxOf x<(iH sc).length/\(pL c.N sc)[c.N.length+(iH sc).idxOf x]?=some x)&&d8 ⟨pL c.N sc,sc,false,Str.empty⟩ x)))
def Oq(c:Ct)(im it iy ia ib:Nat)(ss:List Stmt):List Stmt:=
 [.Assign [.Name (nm c iy) (aF (sg ss 0) 1).pos] (.ListComp (.List [] (kid (aF (sg ss 0) 0) 0).pos) [⟨.Name (Tc (kid (aF (sg ss 0) 0) 1)) (kid (aF (sg ss 0) 0) 1).pos,.Call (.Name "range" (kid (kid (aF (sg ss 0) 0) 2) 0).pos) [.Name (nm c im) (kid (kid (aF (sg ss 0) 0) 2) 1).pos] [] (kid (aF (sg ss 0) 0) 2).pos,[],0⟩] (fQ (aF (sg ss 0) 0)) (aF (sg ss 0) 0).pos) (sg ss 0).pos,
 .For (.Tuple [.Name (nm c ia) (kid (aF (sg ss 1) 0) 0).pos,.Name (nm c ib) (kid (aF (sg ss 1) 0) 1).pos] (yd (aF (sg ss 1) 0)) (aF (sg ss 1) 0).pos) (.Name (nm c it) (aF (sg ss 1) 1).pos) [Yr (nm c iy) (nm c ia) (nm c ib) (sg (Cz (sg ss 1)) 0),Yr (nm c iy) (nm c ib) (nm c ia) (sg (Cz (sg ss 1)) 1)] [] (sg ss 1).pos,
 .Return (some (.Name (nm c iy) (aF (sg ss 2) 0).pos)) (sg ss 2).pos]
def Ot(P:Pg)(c:Ct)(im it iy ia ib:Nat)(ss:List Stmt):Bool:=decide (ia≠iy/\ib≠iy/\ia≠ib)&&(jF c im&&(jF c it&&((jF c iy&&G9 c (nm c iy) (aF (sg ss 0) 1).pos (aF (sg ss 0) 0).pos (fQ (aF (sg ss 0) 0)))&&((jF c ia&&d8 c (nm c ia))&&((jF c ib&&d8 c (nm c ib)) &&
 (bvK c (fQ (aF (sg ss 0) 0)) (Tc (kid (aF (sg ss 0) 0) 1))&&(yc P c "range" && (Vu (aF (sg (Cz (sg ss 1)) 0) 0)&&Vu (aF (sg (Cz (sg ss 1)) 1) 0)))))))))
theorem Hs{P:Pg}{R:Expr->Ex->Prop}{RS:Stmt->Sm->Prop}{c:Ct}{im it iy ia ib:Nat}{ss:List Stmt}(h:Ot P c im it iy ia ib ss=true):Hl P R RS c (Oq c im it iy ia ib ss) (.rows im it iy ia ib):=by obtain⟨h1,a1⟩:=ak h;clear h;obtain⟨h2,a2⟩:=ak a1;obtain⟨h3,a3⟩:=ak a2;obtain⟨h4,a4⟩:=ak a3;obtain⟨h5,a5⟩:=ak a4;obtain⟨h6,a6⟩:=ak a5;obtain⟨h7,a7⟩:=ak a6;obtain⟨h8,a8⟩:=ak a7;obtain⟨k1,k2⟩:=ak (ak h7).2;exact .rows (cT h2) (cT h3) ⟨(cT (ak h4).1).1,(ak h4).2,(cT (ak h4).1).2.2⟩ ⟨cT (ak h5).1,(ak h5).2⟩ ⟨cT (ak h6).1,(ak h6).2⟩ (dec h1) ⟨(dec (ak (ak k2).2).1).1,(ak h7).1,k1,gi (ak k2).1,(dec (ak (ak k2).2).1).2,(ak (ak k2).2).2⟩ (aW h8) (ak a8).1 (ak a8).2
def Td(P:Pg)(m:Nat)(c:Ct)(e:Ex)(t:Expr):Lt:=⟨Sv t,iI P m (Sw c t) e (kid t 0),fQ t,t.pos⟩
noncomputable def lamT(t:Expr):Expr:=.Call (.Name Str.empty p0) [t] [] p0
def Te(P:Pg)(m:Nat)(c:Ct)(i ir:Nat)(e:Ex)(t:Expr):Bool:=qL P (m+1) c (.gG i ir [] e) (lamT t)
def Tf(P:Pg)(m:Nat)(c:Ct)(y:Str):List Ex->List Stmt->List Stmt
 | [],_=>[]
 |e::es,ss=>.Expr (.Call (.Attribute (.Name y (kid (kid (aF (sg ss 0) 0) 0) 0).pos) "append" (kid (aF (sg ss 0) 0) 0).pos) [(Td P m c e (kid (aF (sg ss 0) 0) 1)).ex] [] (aF (sg ss 0) 0).pos) (sg ss 0).pos::Tf P m c y es ss.tail
def Mi(P:Pg)(m:Nat)(c:Ct):List Ex->List Stmt->List Lt
 | [],_=>[]
 |e::es,ss=>Td P m c e (kid (aF (sg ss 0) 0) 1)::Mi P m c es ss.tail
def Mj(P:Pg)(m:Nat)(c:Ct)(i ir:Nat):List Ex->List Stmt->Bool
 | [],_=>true
 |e::es,ss=>(Vu (aF (sg ss 0) 0)&&Te P m c i ir e (kid (aF (sg ss 0) 0) 1))&&Mj P m c i ir es ss.tail
theorem Mk{P:Pg}{m:Nat}{c:Ct}{i ir:Nat}{y:Str}{es:List Ex}{ss:List Stmt}(h:Mj P m c i ir es ss=true):xU y (Tf P m c y es ss) (Mi P m c es ss)/\mS (Cm P c) (tH P i) i ir P.g6 (Mi P m c es ss) es/\(Mi P m c es ss).length=es.length:=by
 induction es generalizing ss with
 |nil=>exact⟨.nil,.nil,rfl⟩
 |cons e es ih=>obtain⟨h1,h2⟩:=ak h;obtain⟨q1,q2,q3⟩:=ih h2;exact⟨.cons (ak h1).1 q1,.cons (Cm.mk (n:=m+1) (ak h1).2) q2,congrArg (· + 1) q3⟩
def Ti(P:Pg)(m:Nat)(c:Ct)(i:Nat)(y:Str)(op:CmpOp)(rhs:Ex)(t:Expr):Expr:=.Compare (.ListComp (.Call (.Name (tH P i) (kid (kid (kid t 0) 0) 0).pos) [.Name (Tc (kid (kid t 0) 1)) (kid (kid (kid t 0) 0) 1).pos] [] (kid (kid t 0) 0).pos) [⟨.Name (Tc (kid (kid t 0) 1)) (kid (kid t 0) 1).pos,.Name y (kid (kid t 0) 2).pos,[],0⟩] (fQ (kid t 0)) (kid t 0).pos) [op] [iI P m c rhs (kid t 1)] t.pos
def cmK(P:Pg)(m:Nat)(c:Ct)(i:Nat)(op:CmpOp)(rhs:Ex)(t:Expr):Bool:=(bvK c (fQ (kid t 0)) (Tc (kid (kid t 0) 1))&&(fZ (fQ (kid t 0)) (Tc (kid (kid t 0) 1))&&(aY (Tc (kid (kid t 0) 1))&&decide ((fQ (kid t 0)).names.lookup (tH P i)=some .globalImplicit))))&&(qL P m c rhs (kid t 1)&&!behindInMarks op (iI P m c rhs (kid t 1)))
def Ys(P:Pg)(m:Nat)(c:Ct)(i:Nat)(y:Str)(op:CmpOp)(rhs:Ex)(fs:Sm->Stmt->Stmt)(ret:Bool)(b:List Sm)(t:Stmt):Stmt:=match ret with
 |true=>.Return (some (Ti P m c i y op rhs (aF t 0))) t.pos
 |false=>.If (Ti P m c i y op rhs (aF t 0)) (match b with |x::_=>[fs x (sg (Cz t) 0)] | []=>[]) [] t.pos
def Tj(ks:Sm->Stmt->Bool)(ret:Bool)(b:List Sm)(t:Stmt):Bool:=match ret with
 |true=>b.isEmpty
 |false=>(match b with |x::l=>l.isEmpty&&ks x (sg (Cz t) 0) | []=>false)
theorem Ml{P:Pg}{m:Nat}{c:Ct}{i:Nat}{y:Str}{op:CmpOp}{rhs:Ex}{RS:Stmt->Sm->Prop}{fs:Sm->Stmt->Stmt}{ks:Sm->Stmt->Bool}(hs:∀{x t},ks x t=true->RS (fs x t) x){ret:Bool}{b:List Sm}{t:Stmt}(h:Tj ks ret b t=true):L7 RS (Ti P m c i y op rhs (aF t 0)) (Ys P m c i y op rhs fs ret b t) ret b:=by
 cases ret with
 |true=>rw[tG h];exact .ret
 |false=>cases b with
  |nil=>cases h
  |cons x l=>obtain⟨h1,h2⟩:=ak (show (l.isEmpty&&ks x (sg (Cz t) 0))=true from h);rw[tG h1];exact .ite (hs h2)
def Tp(P:Pg)(m:Nat)(fs:Sm->Stmt->Stmt)(c:Ct)(x:Sm)(ss:List Stmt):List Stmt:=match x with
 |.rows im it iy ia ib=>Oq c im it iy ia ib ss
 |.calls ic xr op rhs ret b=>(match xr with
  |.refs i _ _ es=>(match es with
   |e::es=>.Assign [.Name (nm c ic) (aF (sg ss 0) 1).pos] (.List [(Td P m c e (kid (aF (sg ss 0) 0) 0)).ex] (aF (sg ss 0) 0).pos) (sg ss 0).pos::(Tf P m c (nm c ic) es ss.tail++[Ys P m c i (nm c ic) op rhs fs ret b (sg ss (es.length+1))])
   | []=>ss)
  |_=>ss)
 |_=>ss
def Tq(P:Pg)(m:Nat)(ks:Sm->Stmt->Bool)(c:Ct)(x:Sm)(ss:List Stmt):Bool:=match x with
 |.rows im it iy ia ib=>Ot P c im it iy ia ib ss
 |.calls ic xr op rhs ret b=>(match xr with
  |.refs i ir ca es=>(match es with
   |e::es=>decide (ca=P.g6)&&((ZX c ic&&jF c ic)&&(Te P m c i ir e (kid (aF (sg ss 0) 0) 0)&&(decide (es.length<900)&&(Mj P m c i ir es ss.tail&&(cmK P m c i op rhs (aF (sg ss (es.length+1)) 0)&&Tj ks ret b (sg ss (es.length+1)))))))
   | []=>false)
  |_=>false)
 |_=>false
theorem Tr{P:Pg}{m:Nat}{RS:Stmt->Sm->Prop}{fs:Sm->Stmt->Stmt}{ks:Sm->Stmt->Bool}(hs:∀{x t},ks x t=true->RS (fs x t) x){c:Ct}{x:Sm}{ss:List Stmt}(h:Tq P m ks c x ss=true):Hl P (Cm P c) RS c (Tp P m fs c x ss) x:=by
 cases x
 case rows im it iy ia ib=>exact Hs h
 case calls ic xr op rhs ret b=>
  cases xr
  case refs i ir ca es=>
   cases es with
   |nil=>cases h
   |cons e es=>
    obtain⟨h1,a1⟩:=ak (show (decide (ca=P.g6)&&((ZX c ic&&jF c ic)&&(Te P m c i ir e (kid (aF (sg ss 0) 0) 0)&&(decide (es.length<900)&&(Mj P m c i ir es ss.tail&&(cmK P m c i op rhs (aF (sg ss (es.length+1)) 0)&&Tj ks ret b (sg ss (es.length+1))))))))=true from h);clear h;obtain rfl:=dec h1;obtain⟨h2,a2⟩:=ak a1;obtain⟨h3,a3⟩:=ak a2;obtain⟨h4,a4⟩:=ak a3;obtain⟨h5,a5⟩:=ak a4;obtain⟨h6,h7⟩:=ak a5;obtain⟨q1,q2,q3⟩:=Mk (y:=nm c ic) h5;obtain⟨k1,k2⟩:=ak (ak h6).1;obtain⟨k3,k4⟩:=ak (ak k1).2;exact .mk (dec (ak (ak h2).1).1) (ak (ak h2).1).2 (cT (ak h2).2).2.1 (cT (ak h2).2).2.2 q1 (.cons (Cm.mk (n:=m+1) h3) q2) (by rw[q3];exact dec h4)
     ⟨(dec (ak (ak k4).2).1).1,(ak k1).1,k3,gi (ak k4).1,(dec (ak (ak k4).2).1).2,(ak (ak k4).2).2,(ak k2).1,(ak (ak k2).2).1,dec (ak (ak k2).2).2⟩ (.mk (ak (ak h6).2).1) (tF (ak (ak h6).2).2) (Ml hs h7)
  all_goals exact nt h
 all_goals exact nt h
def Yt(P:Pg)(m:Nat)(fs:Sm->Stmt->Stmt)(c:Ct)(x:Sm)(t:Stmt):Stmt:=match x with
 |.ret x=>.Return (some (iI P (m+1) c x (aF t 0))) t.pos
 |.expr x=>.Expr (iI P (m+1) c x (aF t 0)) t.pos
 |.set i x=>.Assign [.Name (nm c i) (aF t 1).pos] (iI P (m+1) c x (aF t 0)) t.pos
 |.setC i x=>.Assign [.Name (nm c i) (aF t 1).pos] (iI P (m+1) c x (aF t 0)) t.pos
 |.tgt T x=>.Assign [Cy c T (aF t 1)] (iI P (m+1) c x (aF t 0)) t.pos
 |.item i xj x=>.Assign [.Subscript (.Name (nm c i) (kid (aF t 1) 0).pos) (iI P (m+1) c xj (kid (aF t 1) 1)) (aF t 1).pos] (iI P (m+1) c x (aF t 0)) t.pos
 |.items2 i x j y e=>.Assign [.Tuple [.Subscript (.Name (nm c i) (kid (kid (aF t 1) 0) 0).pos) (iI P (m+1) c x (kid (kid (aF t 1) 0) 1)) (kid (aF t 1) 0).pos,.Subscript (.Name (nm c j) (kid (kid (aF t 1) 1) 0).pos) (iI P (m+1) c y (kid (kid (aF t 1) 1) 1)) (kid (aF t 1) 1).pos] (yd (aF t 1)) (aF t 1).pos] (iI P (m+1) c e (aF t 0)) t.pos
 |.ite e a b=>.If (iI P (m+1) c e (aF t 0)) (qM (Tp P m fs c) fs a (Cz t)) (qM (Tp P m fs c) fs b (Z1 t)) t.pos
 |.loop T it b=>.For (Cy c T (aF t 0)) (Hq (iI P (m+1) c) it (aF t 1)) (qM (Tp P m fs c) fs b (Cz t)) [] t.pos
 |.while e b=>.While (iI P (m+1) c e (aF t 0)) (qM (Tp P m fs c) fs b (Cz t)) [] t.pos
 |.raise i x=>.Raise (some (.Call (.Name (P.cls.getD i Str.empty) (kid (aF t 0) 0).pos) [iI P (m+1) c x (kid (aF t 0) 1)] [] (aF t 0).pos)) none t.pos
 |_=>t
def Yu(P:Pg)(m:Nat)(ks:Sm->Stmt->Bool)(c:Ct)(x:Sm)(t:Stmt):Bool:=match x with
 |.ret x=>qL P (m+1) c x (aF t 0)
 |.expr x=>qL P (m+1) c x (aF t 0)&&!CG (λ_ _=>true) (iI P (m+1) c x (aF t 0))
 |.set i x=>ZX c i&&(qL P (m+1) c x (aF t 0)&&!CG (λs p=>G9 c (nm c i) (aF t 1).pos p s) (iI P (m+1) c x (aF t 0)))
 |.setC i x=>decide (c.N[i]?=some (nm c i))&&(G9 c (nm c i) (aF t 1).pos (aF t 0).pos (fQ (aF t 0))&&(qL P (m+1) c x (aF t 0)&&(match x with
  |.comp _ _ _ _ _ _=>true
  |.cz _ _ _ _ _ _ _ _ _=>true
  |_=>false)))
 |.tgt T x=>(match T with |.tp is=>Yq (iI P (m+1) c x (aF t 0))||Hf c (Mg c (aF t 1) 0 is) (iI P (m+1) c x (aF t 0)) |_=>false)&&(okN c T.ix&&(qL P (m+1) c x (aF t 0)&&!CG (λ_ _=>true) (iI P (m+1) c x (aF t 0))))
 |.item i xj x=>jF c i&&(qL P (m+1) c xj (kid (aF t 1) 1)&&(qL P (m+1) c x (aF t 0)&&!CG (λ_ _=>true) (iI P (m+1) c x (aF t 0))))
 |.items2 i x j y e=>(jF c i&&jF c j)&&((qL P (m+1) c x (kid (kid (aF t 1) 0) 1)&&qL P (m+1) c y (kid (kid (aF t 1) 1) 1))&&(qL P (m+1) c e (aF t 0)&&!CG (λ_ _=>true) (iI P (m+1) c e (aF t 0))))
 |.ite e a b=>qL P (m+1) c e (aF t 0)&&(Jv (Tq P m ks c) ks a (Cz t)&&Jv (Tq P m ks c) ks b (Z1 t))
 |.loop T it b=>okN c T.ix&&(Yo P c (qL P (m+1) c) it (aF t 1)&&Jv (Tq P m ks c) ks b (Cz t))
 |.while e b=>qL P (m+1) c e (aF t 0)&&Jv (Tq P m ks c) ks b (Cz t)
 |.raise i x=>decide (P.cls[i]?=some (P.cls.getD i Str.empty))&&(Vt c (P.cls.getD i Str.empty)&&qL P (m+1) c x (kid (aF t 0) 1))
 |.stuck=>true
 |_=>false
def Ou(P:Pg)(m:Nat):Nat->Ct->Sm->Stmt->Stmt
 | 0=>λ_ _ t=>t
 |n+1=>λc=>Yt P m (Ou P m n c) c
def Ov(P:Pg)(m:Nat):Nat->Ct->Sm->Stmt->Bool
 | 0=>λ_ _ _=>false
 |n+1=>λc=>Yu P m (Ov P m n c) c
def Dy(P:Pg)(c:Ct)(s:Stmt)(x:Sm):Prop:=∃m n t,s=Ou P m n c x t/\Ov P m n c x t=true
abbrev wH (P:Pg) (c:Ct) (ss:List Stmt) (xs:List Sm):Prop:=pK (Hl P (Cm P c) (Dy P c) c) (Dy P c) ss xs
theorem Dy.mk{P:Pg}{m n:Nat}{c:Ct}{x:Sm}{t:Stmt}(h:Ov P m n c x t=true):Dy P c (Ou P m n c x t) x:=⟨m,n,t,rfl,h⟩
theorem wH.mk{P:Pg}{m n:Nat}{c:Ct}{xs:List Sm}{ss:List Stmt}(h:Jv (Tq P m (Ov P m n c) c) (Ov P m n c) xs ss=true):wH P c (qM (Tp P m (Ou P m n c) c) (Ou P m n c) xs ss) xs:=S9 (Tr .mk) .mk h
theorem Z2{e:Expr}(h:(!CG (λ_ _=>true) e)=true):∀a b s p,e≠.ListComp a b s p:=λa b s p q=>by rw[q]at h;cases h
theorem Dy.out{P:Pg}{c:Ct}{s:Stmt}{x:Sm}(h:Dy P c s x):jE P (Cm P c) (Dy P c) c s x:=by
 obtain⟨m,n,t,rfl,h⟩:=h;cases n with
 |zero=>cases h
 |succ n=>
 replace h:Yu P m (Ov P m n c) c x t=true:=h;show jE P (Cm P c) (Dy P c) c (Yt P m (Ou P m n c) c x t) x;cases x
 case ret x=>exact .ret (.mk h)
 case expr x=>exact .expr (.mk (ak h).1) (Z2 (ak h).2)
 case set i x=>have w:=(ak (ak h).2).2;exact .set (dec (ak (ak h).1).1) (ak (ak h).1).2 (.mk (ak (ak h).2).1) λa b s p q=>by rw[q]at w;exact tF w
 case setC i x=>
  obtain⟨h1,h2⟩:=ak h;clear h;obtain⟨h3,h4⟩:=ak h2;obtain⟨h5,h6⟩:=ak h4;cases x
  case comp n' kk T it co xe=>exact .setC (dec h1) h3 (.mk h5)
  case cz n' kk T1 nq c1 T it co xe=>exact .Om (dec h1) h3 (.mk h5)
  all_goals exact Bool.noConfusion (show false=true from h6)
 case tgt T x=>
  obtain⟨h1,h2⟩:=ak h;clear h;obtain⟨h3,h4⟩:=ak h2;cases T with
  |nm i=>cases h1
  |tp is=>exact .tgt (pO h3) (.mk (ak h4).1) (((AF _ _).mp h1).imp (λh vs k p q=>by rw[q]at h;cases h) id) (Z2 (ak h4).2)
 case item i xj x=>exact .item (cT (ak h).1).1 (cT (ak h).1).2.1 (cT (ak h).1).2.2 (.mk (ak (ak h).2).1) (.mk (ak (ak (ak h).2).2).1) (Z2 (ak (ak (ak h).2).2).2)
 case items2 i x j y e=>obtain⟨h1,h2⟩:=ak h;clear h;obtain⟨h3,h4⟩:=ak h2;exact .items2 (cT (ak h1).1).1 (cT (ak h1).1).2.1 (cT (ak h1).1).2.2 (cT (ak h1).2).1 (cT (ak h1).2).2.1 (cT (ak h1).2).2.2 (.mk (ak h3).1) (.mk (ak h3).2) (.mk (ak h4).1) (Z2 (ak h4).2)
 case ite e a b=>exact .ite (.mk (ak h).1) (wH.mk (ak (ak h).2).1) (wH.mk (ak (ak h).2).2)
 case loop T it b=>exact .loop (pO (ak h).1) (tK (R:=Cm P c) .mk (ak (ak h).2).1) (wH.mk (ak (ak h).2).2)
 case «while» e b=>exact .while (.mk (ak h).1) (wH.mk (ak h).2)
 case raise i x=>exact .raise (dec (ak h).1) (dec (ak (ak h).2).1) (.mk (ak (ak h).2).2)
 case stuck=>exact .stuck
 all_goals exact nt h
noncomputable def CJ(e:Expr):Bool:=match e with
 |.Constant .. |.Name .. |.BinOp .. |.Compare .. |.UnaryOp .. |.BoolOp .. |.IfExp .. |.Tuple .. |.List .. |.Subscript .. |.Call .. |.JoinedStr .. |.ListComp .. |.Dict ..=>true
 |_=>false
theorem Cm.CJ{P:Pg}{c:Ct}{e:Expr}{x:Ex}(h:Cm P c e x):CJ e=true:=by
 obtain⟨n,t,rfl,h⟩:=h;cases n with
 |zero=>cases h
 |succ n=>
 replace h:ok1 P (iI P n) (qL P n) c x t=true:=h;show Ev.CJ (S0 P (iI P n) c x t)=true;cases x
 case val d=>show Ev.CJ (Hr d t)=true;unfold Hr;split <;> rfl
 case peek xe=>obtain⟨x,p,a,es,pos,e⟩:=vM (ak h).1;show Ev.CJ (iI P n c xe t)=true;rw[e];rfl
 all_goals first |rfl |exact nt h
section
theorem Cm.star(h:Cm P c e x)(es:List Expr):starEach (e::es) env=(false,eval e env)::starEach es env:=by have hs:=h.CJ;cases e <;> first |rfl |exact Bool.noConfusion (show false=true from hs)
theorem jD.star(h:Dw P c es xs):starEach es env=es.map λe=>(false,eval e env):=by
 induction es generalizing xs with
 |nil=>rfl
 |cons e es ih=>
  cases h with
  |cons h1 h2=>rw[h1.star,ih h2];rfl
theorem jD.plain(h:Dw P c es xs):(backTo pos (starEach es env)).any (·.1)=false:=by
 rw[h.star];unfold backTo
 induction es generalizing xs with
 |nil=>rfl
 |cons e es ih=>
  cases h with
  |cons h1 h2=>rw[List.map_cons,List.map_cons,List.any_cons,ih h2];rfl
theorem Cm.folded(h:Cm P c e x)(y:Value):foldedSetIterable e env y=pure y:=by have hs:=h.CJ;cases e <;> first |rfl |exact Bool.noConfusion (show false=true from hs)
theorem lM.folded(h:Vv P c e x)(y:Value):foldedSetIterable e env y=pure y:=by
 cases h with
 |seq h=>exact h.folded y
 |cR _ _ _=>rfl
 |gW _ _ _ _=>rfl
 |pB _ _ _ _ _=>rfl
 |enum _ _ _=>rfl
 |zip _ _ _ _=>rfl
theorem Cm.Mm(h:Cm P c e x):sG e:=by have hs:=h.CJ;cases e <;> first |exact λ_ _=>rfl |exact Bool.noConfusion (show false=true from hs)
end
structure jj(P:Pg)(rn:Rn):Prop where
 e:∀{X:Cx}{c:Ct}{z:Z}{k:Nat}{x:Ex}{e:Expr}{g g':G}{r:R},bh P k X c->z.K=X.K->Cm P c e x->rn.e z.bor k x g=some (r,g')->aD X z e g r g'
 t:∀{X:Cx}{c:Ct}{z:Z}{k:Nat}{x:Ex}{e:Expr}{g g':G}{b:Bool},bh P k X c->z.K=X.K->Cm P c e x->rn.t z.bor k x g=some (b,g')->cg X z e g b g'
 b:∀{X:Cx}{c:Ct}{z:Z}{k:Nat}{xs:List Sm}{jP:List Stmt}{g g':G}{f:Fl},bh P k X c->c.df=true->z.K=X.K->wH P c jP xs->rn.b z.bor k xs g=some (f,g')->dY X z jP g f g'
 g:∀{X:Cx}{c:Ct}{z:Z}{k:Nat}{f ir:Nat}{l:Lt}{ls:List Lt}{es:List Ex}{fx v:Str}{scope:Scope}{N':List Str}{kb j:Nat}{fp vp cp:Pos}{g g':G}{r:R},bh P k X c->z.K=X.K->mS (Cm P c) fx f ir P.g6 (l::ls) es->Ym c fx scope N' v kb j->rn.e z.bor k (.refs f ir P.g6 es) g=some (r,g')->
  ∃ds,r=.new ds/\(∃q cc,pq X ji q cc)/\(∀m∈l::ls,aM X.env.scope m.scope/\eu m.params m.scope)/\d7 (pA X z g ji N' (X.N.length+j) scope (.Call (.Name fx fp) [.Name v vp] [] cp)) (l::ls) ds
theorem eH(h:iG N N' scope k=true):Names N N' scope k:=by
 unfold iG at h;simp only[eC,hU,hZ,sT]at h;obtain⟨⟨h1,h2⟩,h3⟩:=h;refine⟨h1,λx e=>?_,λi x e hi=>?_⟩
 . rw[e]at h2;exact lS h2
 . have h4:=h3 i hi;rw[e]at h4;simp only[AF,eC,hU]at h4;exact h4
theorem fF(ct:bh P k X c)(h:pH c.sc scope=true):aM X.env.scope scope:=by
 unfold pH at h;simp only[eC,hU,hZ,AF]at h;obtain⟨h1,h2⟩:=h;refine⟨h1,λy hy=>(h2 y hy).1.1,λy hy e=>?_,λy hy e=>?_,λy hy e=>?_⟩
 . exact ((h2 y hy).1.2).elim (λq=>absurd e q) id
 . exact ((h2 y hy).2).elim (λq=>absurd e q) λq=>q.1
 . exact ((h2 y hy).2).elim (λq=>absurd e q) λq=>ct.fre _ q.2
theorem jH{X:Cx}{N':List Str}{scope:Scope}{b:Bk}{x:Str}:(X.blk N' scope b).env.scope.names.lookup x=(scope.names.lookup x).map λk=>if (k==NameKind.free&&X.env.scope.kind==.function&&X.env.kindOf x==some .cell)then NameKind.cell else k:=dX
theorem bh.blk{P:Pg}{k:Nat}{X:Cx}{c:Ct}{scope:Scope}{N':List Str}(ct:bh P k X c)(hnd:N'.Nodup)(b:Bk):bh P k (X.blk N' scope b) ⟨N',scope,false,Str.empty⟩:=by
 refine⟨rfl,hnd,λx e=>?_,λx e=>?_,λx e=>?_,λe=>absurd e ⋯,λx e=>?_,λe=>absurd e ⋯,ct.calm,rfl,ct.md,ct.room,λe=>absurd (show Str.empty=("law":Str)from e) ⋯⟩
 . have e':scope.names.lookup x=some .local:=e;rw[jH,e'];rfl
 . have e':scope.names.lookup x=some .globalImplicit:=e;show (X.blk N' scope b).env.scope.names.lookup x=_;rw[jH,e'];rfl
 .
  rw[jH];rcases e with e |e
  . have e':scope.names.lookup x=some .cell:=e;rw[e'];exact .inl rfl
  .
   have e':scope.names.lookup x=some .free:=e;rw[e',BF];by_cases hq:(NameKind.free==NameKind.free&&X.env.scope.kind==.function&&X.env.kindOf x==some .cell)=true
   . rw[fN hq];exact .inl rfl
   . rw[gN hq];exact .inr rfl
 .
  rcases e with e |e
  . cases e
  . have e':scope.names.lookup x=some .local:=e;show (scope.names.lookup x==some .local)=true;rw[e'];rfl
section
theorem bF(h:aD X z e g r g'):aD X z e g (norm r) g':=by
 cases r with
 |dat d=>exact h
 |new l=>exact oA h
 |var i=>exact h
theorem Ht(h:aD X z e g r g1)(hd:toD z.bor r g1=some (d,g')):aD X z e g (.dat d) g':=by
 cases r with
 |dat d'=>cases hd;exact h
 |new l=>cases hd;exact oA h
 |var i=>
  have hd:(if i∈z.bor then none else match g1[i]? with |some (.own l)=>some (D.lst l,g1.set i (.dat (.lst l))) |_=>none)=some (d,g'):=hd
  split at hd
  . cases hd
  .
   rename_i hb;split at hd
   . rename_i l hg;cases hd;exact Ay h hg hb
   . cases hd
theorem aN(hS:jj P rn)(ct:bh P k X c)(hK:z.K=X.K)(hc:Cm P c e x)(h:eX rn z.bor k x g=some (d,g')):aD X z e g (.dat d) g':=by
 unfold eX at h;split at h
 . rename_i r g1 e1;exact Ht (hS.e ct hK hc e1) h
 . cases h
theorem pP:∀(ds:List D),uO (ds.map R.dat)=some ds
 | []=>rfl
 |d::ds=>by
  show (match uO (ds.map R.dat)with |some ds=>some (d::ds) |none=>none)=_
  rw[pP ds]
theorem kj(hS:jj P rn)(ct:bh P k X c)(hK:z.K=X.K):∀{es:List Expr}{xs:List Ex}{g g':G}{ds:List D},Dw P c es xs->pF rn z.bor k xs g=some (ds,g')->cO X z es g (ds.map .dat) g'
 |_,_,_,_,_,.nil,h=>by cases h;exact eL
 |_,_,_,_,_,.cons h1 h2,h=>by
  unfold pF at h;split at h
  .
   rename_i d g1 e1;split at h
   . rename_i ds g2 e2;cases h;exact cF (aN hS ct hK h1 e1) (kj hS ct hK h2 e2) (h1.star _)
   . cases h
  . cases h
theorem kr(hS:jj P rn)(ct:bh P k X c)(hK:z.K=X.K):∀{es:List Expr}{xs:List Ex}{g g':G}{rs:List R},Dw P c es xs->argsR rn z.bor k xs g=some (rs,g')->cO X z es g rs g'
 |_,_,_,_,_,.nil,h=>by cases h;exact eL
 |_,_,_,_,_,.cons h1 h2,h=>by
  unfold argsR at h;split at h
  .
   rename_i r g1 e1;split at h
   .
    rename_i rs g2 e2;cases h;have q:=bF (hS.e ct hK h1 e1);have q2:=kr hS ct hK h2 e2;cases r with
    |dat d=>exact cF q q2 (h1.star _)
    |new l=>exact cF q q2 (h1.star _)
    |var i=>exact QD q q2 (h1.star _)
   . cases h
  . cases h
theorem iW(h:argsR rn bor k [a,b] g=some (rs,g2)):∃r1 r2 g1,rn.e bor k a g=some (r1,g1)/\rn.e bor k b g1=some (r2,g2)/\rs=[norm r1,norm r2]:=by
 unfold argsR at h;split at h
 .
  rename_i r1 g1 e1;unfold argsR at h;split at h
  .
   rename_i rs' g3 e3;split at e3
   . rename_i r2 g4 e2;unfold argsR at e3;cases e3;cases h;exact⟨r1,r2,g1,e1,e2,rfl⟩
   . cases e3
  . cases h
 . cases h
theorem yj(hS:jj P rn)(ct:bh P k X c)(hK:z.K=X.K):∀{bs:List Expr}{xs:List Ex}{ops:List CmpOp}{g g':G}{d1:D}{b:Bool},Dw P c bs xs->Du rn z.bor k d1 ops xs g=some (b,g')->sP X z d1 ops bs g b g'
 |_,_,[],_,_,_,_,.nil,h=>by cases h
 |_,_,[_],_,_,_,_,.nil,h=>by unfold Du at h;cases h
 |_,_,_::_::_,_,_,_,_,.nil,h=>by unfold Du at h;cases h
 |_,_,[],_,_,_,_,.cons _ _,h=>by unfold Du at h;cases h
 |_,_,[op],_,_,d1,_,.cons h1 .nil,h=>by
  unfold Du at h;split at h
  .
   rename_i d2 g1 e1;split at h
   . rename_i b e2;cases h;exact .last (aN hS ct hK h1 e1) (jC hK ct.room e2)
   . cases h
  . cases h
 |_,_,op::op'::ops,_,_,d1,_,.cons h1 .nil,h=>by unfold Du at h;cases h
 |_,_,[op],_,_,d1,_,.cons h1 (.cons h2 h3),h=>by unfold Du at h;cases h
 |_,_,op::op'::ops,_,_,d1,_,.cons h1 (.cons h2 h3),h=>by
  unfold Du at h;split at h
  .
   rename_i d2 g1 e1;split at h
   . rename_i e2;exact .link (aN hS ct hK h1 e1) (jC hK ct.room e2) (yj hS ct hK (.cons h2 h3) h)
   . rename_i e2;cases h;exact .stop (aN hS ct hK h1 e1) (jC hK ct.room e2)
   . cases h
  . cases h
theorem zR(hS:jj P rn)(ct:bh P k X c)(hK:z.K=X.K):∀{es:List Expr}{xs:List Ex}{g g':G}{r:R},Dw P c es xs->G5 rn z.bor k xs g=some (r,g')->aD X z (.BoolOp .And es pos) g r g'
 |_,_,_,_,_,.nil,h=>by cases h
 |_,_,_,_,_,.cons h1 .nil,h=>El (hS.e ct hK h1 h)
 |_,_,_,_,_,.cons h1 (.cons h2 h3),h=>by
  unfold G5 at h;split at h
  . rename_i g1 e1;exact J6 (hS.e ct hK h1 e1) (zR hS ct hK (.cons h2 h3) h)
  . rename_i g1 e1;cases h;exact J5 (hS.e ct hK h1 e1)
  . cases h
theorem Hu(hS:jj P rn)(ct:bh P k X c)(hK:z.K=X.K):∀{es:List Expr}{xs:List Ex}{g g':G}{r:R},Dw P c es xs->X8 rn z.bor k xs g=some (r,g')->aD X z (.BoolOp .Or es pos) g r g'
 |_,_,_,_,_,.nil,h=>by cases h
 |_,_,_,_,_,.cons h1 .nil,h=>El (hS.e ct hK h1 h)
 |_,_,_,_,_,.cons h1 (.cons h2 h3),h=>by
  unfold X8 at h;split at h
  . rename_i g1 e1;exact Qy (hS.e ct hK h1 e1) (Hu hS ct hK (.cons h2 h3) h)
  . rename_i g1 e1;cases h;exact Qx (hS.e ct hK h1 e1)
  . cases h
theorem vN(hS:jj P rn)(ct:bh P k X c)(hK:z.K=X.K):∀{es:List Expr}{xs:List Ex}{g g':G}{b:Bool},Dw P c es xs->vF rn z.bor k xs g=some (b,g')->ni X z (.BoolOp .And es pos) g b g'
 |_,_,_,_,_,.nil,h=>by cases h
 |_,_,_,_,_,.cons h1 .nil,h=>J2 (hS.t ct hK h1 h)
 |_,_,_,_,_,.cons h1 (.cons h2 h3),h=>by
  unfold vF at h;split at h
  . rename_i g1 e1;exact J4 (hS.t ct hK h1 e1) (vN hS ct hK (.cons h2 h3) h)
  . rename_i g1 e1;cases h;exact J3 (hS.t ct hK h1 e1)
  . cases h
theorem zS(hS:jj P rn)(ct:bh P k X c)(hK:z.K=X.K):∀{es:List Expr}{xs:List Ex}{g g':G}{b:Bool},Dw P c es xs->G6 rn z.bor k xs g=some (b,g')->ni X z (.BoolOp .Or es pos) g b g'
 |_,_,_,_,_,.nil,h=>by cases h
 |_,_,_,_,_,.cons h1 .nil,h=>Qu (hS.t ct hK h1 h)
 |_,_,_,_,_,.cons h1 (.cons h2 h3),h=>by
  unfold G6 at h;split at h
  . rename_i g1 e1;exact Qw (hS.t ct hK h1 e1) (zS hS ct hK (.cons h2 h3) h)
  . rename_i g1 e1;cases h;exact Qv (hS.t ct hK h1 e1)
  . cases h
theorem vO(hS:jj P rn)(ct:bh P k X c)(hK:z.K=X.K)(hc:CmO P c e x)(h:G7 rn z.bor k x g=some (o,g')):sQ X z e g o g':=by
 cases hc with
 |none=>cases h;exact Bj
 |@some e' x' hc=>
  have h:(match eX rn z.bor k x' g with |some (.int i,g1)=>some (some i,g1) |_=>none)=some (o,g'):=h
  split at h
  . rename_i e1;cases h;exact Bm (aN hS ct hK hc e1)
  . cases h
theorem vP(ct:bh P k X c)(h:c.sc.names.lookup x=some .globalImplicit):Gl X x:=ct.ki x h
theorem tL(hS:jj P rn)(ct:bh P k X c)(hK:z.K=X.K)(htp:tp=true->∃es k pos,tg=.Tuple es k pos)(hc:Vv P c iter it)(h:eE rn z.bor k tp it g=some (aj,g')):dZ X z tg iter g aj g':=by
 cases hc with
 |pB ha hb' hs' hb hg=>
  unfold eE at h;dsimp only at h;split at h
  .
   rename_i c0 g1 e1;split at h
   .
    rename_i j g2 e2;split at h
    .
     rename_i st g3 e3;split at h
     . rename_i hj;cases h;simp only[vG,eC,hU]at hj;exact K8 (cF (aN hS ct hK ha e1) (cF (aN hS ct hK hb' e2) (cF (aN hS ct hK hs' e3) eL (hs'.star _)) (hb'.star _)) (ha.star _)) (vP ct hg) (ct.md.bn _ hb) (ha.star _) (jD.plain (.cons hb' (.cons hs' .nil))) hj.1 hj.2.1 ⟨hj.2.2.2,hj.2.2.1.2⟩
     . cases h
    . cases h
   . cases h
  . cases h
 |zip ha ha2 hb hg=>
  unfold eE at h;dsimp only at h;split at h
  .
   rename_i ht;obtain⟨es,k0,pos,rfl⟩:=htp ht;split at h
   .
    rename_i d1 d2 g1 e1;split at h
    .
     rename_i l m e2 e3;split at h
     . rename_i e4;cases h;exact RL hK (kj hS ct hK (.cons ha (.cons ha2 .nil)) e1) e2 e3 e4 (vP ct hg) (ct.md.bn _ hb) (ha.star _) (by rw[ha2.star];rfl)
     . cases h
    . cases h
   . cases h
  . cases h
 |enum ha hb hg=>
  unfold eE at h;dsimp only at h;split at h
  .
   rename_i ht;obtain⟨es,k0,pos,rfl⟩:=htp ht;split at h
   .
    rename_i d g1 e1;split at h
    . rename_i l e2;cases h;exact K9 hK (cF (aN hS ct hK ha e1) eL (ha.star _)) e2 (vP ct hg) (ct.md.bn _ hb) (ha.star _)
    . cases h
   . cases h
  . cases h
 |cR ha hb hg=>
  unfold eE at h;dsimp only at h;split at h
  .
   rename_i j g1 e1;split at h
   . rename_i hj;cases h;simp only[Lr,eC,hU]at hj;exact Ko (cF (aN hS ct hK ha e1) eL (ha.star _)) (vP ct hg) (ct.md.bn _ hb) (by rw[ha.star];rfl) hj.1 hj.2
   . cases h
  . cases h
 |gW ha hb' hb hg=>
  unfold eE at h;dsimp only at h;split at h
  .
   rename_i c0 g1 e1;split at h
   .
    rename_i j g2 e2;split at h
    . rename_i hj;cases h;simp only[Lr,eC,hU]at hj;exact Kp (cF (aN hS ct hK ha e1) (cF (aN hS ct hK hb' e2) eL (hb'.star _)) (ha.star _)) (vP ct hg) (ct.md.bn _ hb) (by rw[ha.star,hb'.star];rfl) (by rw[hb'.star];rfl) ⟨hj.1.1,hj.1.2,hj.2.1,hj.2.2⟩
    . cases h
   . cases h
  . cases h
 |seq hc=>
  have h':(match eX rn z.bor k it g with |some (.tup l,g1)=>some (l,g1) |some (.lst l,g1)=>some (l,g1) |some (.fix l,g1)=>some (l,g1) |_=>none)=some (aj,g'):=by cases hc.out <;> exact h
  split at h'
  . rename_i e1;cases h';exact Rf hK (aN hS ct hK hc e1)
  . rename_i e1;cases h';exact Rg (aN hS ct hK hc e1)
  . rename_i e1;cases h';exact Rh hK (aN hS ct hK hc e1)
  . cases h'
theorem tM(hS:jj P rn)(ct:bh P k X c)(hK:z.K=X.K)(hc:yh P c ifs co)(h:qo rn z.bor k co g=some (b,g')):cP X z ifs g b g':=by
 cases hc with
 |none=>cases h;exact Kq
 |some hc=>exact Kr (hS.t ct hK hc h)
theorem zT(h:zM c tg T):T.gH=true->∃es k pos,tg=.Tuple es k pos:=by
 cases h with
 |nm _ _=>intro e;cases e
 |tp _=>intro _;exact⟨_,_,_,rfl⟩
theorem Tt(ct:bh P k X c)(h:Cr c es is):j6 X es is:=by
 induction h with
 |nil=>exact .nil
 |cons h1 h2 _ ih=>exact .cons (ct.nm h1 h2) ih
theorem vQ(ct:bh P k X c)(hK:z.K=X.K)(h:zM c tg T)(hb:∀i∈T.ix,i∉z.bor):iA X z tg T:=by
 cases h with
 |nm h1 h2=>exact W6 (ct.nm h1 h2) (hb _ (fA.mpr rfl))
 |tp h1=>exact W7 ct.calm hK (Tt ct h1) hb
theorem tN(hS:jj P rn){Xb:Bk->Cx}{cb:Ct}(Yv:∀b,bh P k (Xb b) cb)(Oa:∀b,z.K=(Xb b).K){T:Tg}{last:Nat}{ifs:List Expr}{co:Option Ex}{bH:Expr}{xe:Ex}(hi:yh P cb ifs co)(he:Cm P cb bH xe) :
  ∀{aj:List D}{g gE:G},x8 rn z.bor k T last co xe aj g=some gE->je T last (λg b g'=>∀bk:Bk,cP (Xb bk) z ifs g b g') (λg d g'=>∀bk:Bk,aD (Xb bk) z bH g (.dat d) g') aj g gE
 | [],_,_,h=>by cases h;exact .nil
 |d::l,_,_,h=>by
  unfold x8 at h;split at h
  . cases h
  .
   rename_i g1 e1;split at h
   . cases h
   . rename_i g2 e2;exact .skip e1 (λbk=>tM hS (Yv bk) (Oa bk) hi e2) (tN hS Yv Oa hi he h)
   .
    rename_i g2 e2;split at h
    . cases h
    .
     rename_i x g3 e3;split at h
     .
      rename_i acc e4;split at h
      . rename_i hl;exact .take e1 (λbk=>tM hS (Yv bk) (Oa bk) hi e2) (λbk=>aN hS (Yv bk) (Oa bk) he e3) e4 hl (tN hS Yv Oa hi he h)
      . cases h
     . cases h
end
def jq(P:Pg)(mg:Str->Option Value)(ci:Nat)(C:Addr):Prop:=∃x,P.cls[ci]?=some x/\mg x=some (.ref C)
structure Mp(P:Pg)(k:Nat)(X:Cx)(c:Ct):Prop where
 ct:bh P k X.mh c
 ex:X.ex=[]
 pa:PassesOwn (model X.prog X.w) X.A X.env X.xe
structure lN(P:Pg)(rn:Rn):Prop where
 x:∀{X:Cx}{c:Ct}{z:Z}{k:Nat}{x:Ex}{e:Expr}{g g':G}{ci:Nat}{C:Addr},Mp P k X c->z.K=X.K->jq P X.mg ci C->Cm P c e x->rn.x z.bor k x g=some (ci,g')->FG X z e g C g'
 t:∀{X:Cx}{c:Ct}{z:Z}{k:Nat}{x:Ex}{e:Expr}{g g':G}{ci:Nat}{C:Addr},Mp P k X c->z.K=X.K->jq P X.mg ci C->Cm P c e x->rn.xt z.bor k x g=some (ci,g')->Vf X z e g C g'
 b:∀{X:Cx}{c:Ct}{z:Z}{k:Nat}{xs:List Sm}{jP:List Stmt}{g g':G}{ci:Nat}{C:Addr},Mp P k X c->c.df=true->z.K=X.K->jq P X.mg ci C->wH P c jP xs->rn.xb z.bor k xs g=some (ci,g')->KN X z jP g C g'
structure Mq(P:Pg)(fi:Fi)(fx:Fx):Prop where
 np:fx.np=fi.ps.length
 n:fx.n=fi.N.length
 body:wH P ⟨fi.N,aE fi.st,true,fi.qual⟩ (bA fi.st) fx.body
def gj(P:Pg)(fns:List Fx):Prop:=∀(f:Nat) (fi:Fi) (fx:Fx),P.fn[f]?=some fi->fns[f]?=some fx->Mq P fi fx
theorem pQ{P:Pg}{k:Nat}{prog:Program}{w:World}{K:Frag}{mg:Str->Option Value}{base:Heap}{N ps:List Str}{qual:Str}{scope:Scope}{f:Addr}{bD:Value}{A:Around}{outer:List Env}{s:Shared}{H:Hp}{E:XK}
  (S:bS N ps scope) (md:tD P K mg) (bE:PySem.W.codeIn K bD qual=true) (hr:cD k (A.deeper (envOfC qual scope s⁻¹ f bD))):bh P k (fL uB prog w K mg base N qual scope f bD A outer s H E).mh ⟨N,scope,true,qual⟩:=by
 refine⟨rfl,S.nd,λx e=>e,λx e=>e,λx e=>e,λ_ x e=>e,λx _=>rfl,λ_=>?_,rfl,rfl,md,hr,λe h=>⟨by have e:qual = "law" :=e;subst e;rfl,md.lam h _ (by have e:qual = "law" :=e;exact e▸bE)⟩⟩
 show (if scope.kind.isAnnotationScope then ScopeKind.function else scope.kind)=.function
 rw[S.kind];rfl
section
theorem Hv(hS:jj P rn){k':Nat}(ct:bh P (k'+1) X c)(hK:z.K=X.K){f:Nat}{fi:Fi}{fx:Fx}(Yw:P.fn[f]?=some fi)(uA:Mq P fi fx)(zG:c.sc.names.lookup fi.name=some .globalImplicit){e:Expr}{es:List Expr}{xs:List Ex}{rs:List R}{g g1 gO:G}{r:R}
  (hc:Dw P c (e::es) xs) (ha:cO X z (e::es) g rs g1) (h:aU rn fx k' rs g1=some (r,gO)):aD X z (.Call (.Name fi.name p) (e::es) [] pos) g r gO:=by
 obtain⟨f,fd,hm,hF,Tv,hB,jt⟩:=ct.md.fn _ fi Yw;have F:iZ X.prog X.w X.K X.mg X.base uB (k'+1) f fd fi.ps (Km X.K fi.N fi.ps.length λbor g r g'=>rn.b bor k' fx.body g=some (.rt r,g')\/(rn.b bor k' fx.body g=some (.nx,g')/\r=.dat .non)):=by
  refine zm hF Tv λbD A outer s H E bE hr z' g r g' Vk hrun=>?_
  have Yx:bh P k' (fL uB X.prog X.w X.K X.mg X.base fi.N fi.qual (aE fi.st) f bD A outer s H E).mh ⟨fi.N,aE fi.st,true,fi.qual⟩:=pQ Tv ct.md bE hr;rcases hrun with h |⟨h,rfl⟩
  . exact⟨_,hS.b Yx rfl Vk uA.body h,.inl rfl⟩
  . exact⟨_,hS.b Yx rfl Vk uA.body h,.inr ⟨rfl,rfl⟩⟩
 have h1:∃h2:Dw P c es xs.tail,starEach (e::es) X.env=(false,eval e X.env)::starEach es X.env:=by
  cases hc with
  |cons h1 h2=>exact⟨h2,h1.star _⟩
 obtain⟨h2,bY⟩:=h1;unfold aU at h;split at h
 .
  rename_i hl;split at h
  . cases h
  .
   rename_i gs e1;split at h
   .
    rename_i r0 gc e2;split at h
    .
     rename_i gO' e3;split at h
     . rename_i r' e4;cases h;exact zj F hK ct.room (ct.ki _ zG) hm hF.kp hB ha (by rw[hl.1,uA.np]) e1 hl.2 (.inl (by rw[<- uA.n];exact e2)) e3 e4 jt bY h2.plain
     . cases h
    . cases h
   .
    rename_i gc e2;split at h
    . rename_i gO' e3;cases h;exact zj F hK ct.room (ct.ki _ zG) hm hF.kp hB ha (by rw[hl.1,uA.np]) e1 hl.2 (.inr ⟨by rw[<- uA.n];exact e2,rfl⟩) e3 rfl jt bY h2.plain
    . cases h
   . cases h
 . cases h
theorem vR(hS:jj P rn)(ct:bh P k X c)(hK:z.K=X.K)
  (hnd:N'.Nodup) (hT:zM ⟨N',scope,false,Str.empty⟩ tg T) (CK:∀i∈T.ix,c.N.length<=i/\i<c.N.length+kk) (hi:Vv P c iter it) (hf:yh P ⟨N',scope,false,Str.empty⟩ ifs co) (he:Cm P ⟨N',scope,false,Str.empty⟩ bH xe)
  (h:fY rn z.bor k c.N.length kk T it co xe g=some (acc,g')) :
  ∃aj g1 gE,dZ X z tg iter g aj g1/\(∀b:Bk,iA (X.blk N' scope b) z tg T)/\(∀i∈T.ix,g1.length<=i/\i<g1.length+kk)/\
   je T (g1.length+kk) (λg b g'=>∀bk:Bk,cP (X.blk N' scope bk) z ifs g b g') (λg d g'=>∀bk:Bk,aD (X.blk N' scope bk) z bH g (.dat d) g') aj (gC kk g1) gE/\gE[g1.length+kk]?=some (.own acc)/\g'=gE.take g1.length:=by
 unfold fY at h;split at h
 . cases h
 .
  rename_i aj g1 e1;split at h
  .
   rename_i hl;split at h
   . cases h
   .
    rename_i gE e2;split at h
    .
     rename_i acc' e3;cases h;obtain⟨hl,hb⟩:=hl;rw[<- hl]at e2 e3 CK ⊢
     refine⟨aj,g1,gE,tL hS ct hK (zT hT) hi e1,λb=>vQ (ct.blk hnd b) hK hT λi hi hm=>?_,CK,tN hS (λb=>ct.blk hnd b) (λb=>hK) hf he e2,e3,rfl⟩
     rw[List.any_eq_false]at hb;exact hb i hi (xI hm)
    . cases h
  . cases h
theorem tQ(hS:jj P rn)(ct:bh P k X c)(hK:z.K=X.K)(hnd:N'.Nodup)(hT:zM ⟨N',scope,false,Str.empty⟩ tg T)(hf1:yh P ⟨N',scope,false,Str.empty⟩ f1 c1)
  (hi:Vv P ⟨N',scope,false,Str.empty⟩ iter it) (hf:yh P ⟨N',scope,false,Str.empty⟩ ifs co) (he:Cm P ⟨N',scope,false,Str.empty⟩ bH xe):∀{aj:List D}{g gE:G},vH rn z.bor k T1 c1 T it co xe last aj g=some gE->
  gK T1 (λg b g'=>∀bk:Bk,cP (X.blk N' scope bk) z f1 g b g') (xW X z N' scope tg iter bH ifs T last) aj g gE
 | [],_,_,h=>by cases h;exact .nil
 |d::l,_,_,h=>by
  unfold vH at h;split at h
  . cases h
  .
   rename_i g1 e1;split at h
   . cases h
   . rename_i g2 e2;exact .skip e1 (λbk=>tM hS (ct.blk hnd bk) hK hf1 e2) (tQ hS ct hK hnd hT hf1 hi hf he h)
   .
    rename_i g2 e2;split at h
    . cases h
    .
     rename_i items2 g3 e3;split at h
     . cases h
     . rename_i g4 e4;exact .take e1 (λbk=>tM hS (ct.blk hnd bk) hK hf1 e2) ⟨items2,g3,λbk=>tL hS (ct.blk hnd bk) hK (zT hT) hi e3,tN hS (λb=>ct.blk hnd b) (λb=>hK) hf he e4⟩ (tQ hS ct hK hnd hT hf1 hi hf he h)
theorem rL(hS:jj P rn)(ct:bh P k X c)(hK:z.K=X.K)
  (hnd:N'.Nodup) (hT1:zM ⟨N',scope,false,Str.empty⟩ t1 T1) (hT:zM ⟨N',scope,false,Str.empty⟩ tg T) (Yy:∀i∈T1.ix,c.N.length<=i/\i<c.N.length+kk) (CK:∀i∈T.ix,c.N.length<=i/\i<c.N.length+kk) (hi1:Vv P c i1 nq) (hf1:yh P ⟨N',scope,false,Str.empty⟩ f1 c1) (hi:Vv P ⟨N',scope,false,Str.empty⟩ iter it) (hf:yh P ⟨N',scope,false,Str.empty⟩ ifs co) (he:Cm P ⟨N',scope,false,Str.empty⟩ bH xe)
  (h:lK rn z.bor k c.N.length kk T1 nq c1 T it co xe g=some (acc,g')) :
  ∃aj g1 gE,dZ X z t1 i1 g aj g1/\(∀b:Bk,iA (X.blk N' scope b) z t1 T1)/\(∀b:Bk,iA (X.blk N' scope b) z tg T)/\(∀i∈T1.ix,g1.length<=i/\i<g1.length+kk)/\(∀i∈T.ix,g1.length<=i/\i<g1.length+kk)/\
   gK T1 (λg b g'=>∀bk:Bk,cP (X.blk N' scope bk) z f1 g b g') (xW X z N' scope tg iter bH ifs T (g1.length+kk)) aj (gC kk g1) gE/\gE[g1.length+kk]?=some (.own acc)/\g'=gE.take g1.length:=by
 unfold lK at h;split at h
 . cases h
 .
  rename_i aj g1 e1;split at h
  .
   rename_i hl;split at h
   . cases h
   .
    rename_i gE e2;split at h
    .
     rename_i acc' e3;cases h;obtain⟨hl,hb⟩:=hl;rw[<- hl]at e2 e3 CK Yy ⊢
     rw[List.any_eq_false]at hb;exact⟨aj,g1,gE,tL hS ct hK (zT hT1) hi1 e1,λb=>vQ (ct.blk hnd b) hK hT1 λi hi hm=>hb i (AA _ hi) (xI hm),λb=>vQ (ct.blk hnd b) hK hT λi hi hm=>hb i (i6 _ hi) (xI hm),Yy,CK,tQ hS ct hK hnd hT hf1 hi hf he e2,e3,rfl⟩
    . cases h
  . cases h
end
theorem Mr{P:Pg}{c:Ct}{er y ke en Ju:Str}{Ci np Vj py aR qj kp vq vo bG qk iO:Pos}{j:Nat}{rest:List Stmt}{bd:List Sm}(h:wH P c (.Assign [.Name er Ci] (.Constant .none j np) Vj::Gv y ke en Ju py aR qj kp vq vo bG qk iO::rest) bd):wH P c rest (bd.drop 2):=by
 have nog:∀{s:Stmt}{ss:List Stmt}{x:Sm}{r:List Stmt},Hl P (Cm P c) (Dy P c) c ss x->ss++r=s::rest->(∀a b p,s≠.Assign a b p)->False:=λg e n=>by
  cases g <;> (injection e with e1 e2;exact n _ _ _ e1.symm)
 generalize hq:(Stmt.Assign [.Name er Ci] (.Constant .none j np) Vj::Gv y ke en Ju py aR qj kp vq vo bG qk iO::rest)=jP at h;cases h with
 |nil=>cases hq
 |grp g _=>cases g <;> (injection hq with e1 e2;injection e1 with e3 e4;cases e4)
 |cons _ h1=>
  injection hq with e1 e2;generalize hq2:(Gv y ke en Ju py aR qj kp vq vo bG qk iO::rest)=aK at e2;subst e2;cases h1 with
  |nil=>cases hq2
  |grp g _=>exact (nog g hq2.symm (λa b p e=>nomatch e)).elim
  |cons _ h2=>injection hq2 with e1 e2;subst e2;exact h2
section
variable{X:Cx}{c:Ct}
theorem Hw(ct:bh P k X c){es:List Expr}{ns:List String}(h:x9 P c es ns):oV X es ns/\∀n∈ns,n∈qJ:=by
 induction h with
 |nil=>exact⟨.nil,λn hn=>nomatch hn⟩
 |@cons T n pos es ns h1 h2 h3 h4 _ ih=>
  refine⟨.cons ?_ ih.1,λm hm=>(d6.mp hm).elim (λe=>e▸h4) (ih.2 m)⟩
  subst h3;refine⟨ct.ki _ h2,ct.md.bn _ h1,?_,?_,?_⟩ <;> (unfold qJ at h4;simp only[d6,nN,A5]at h4;rcases h4 with rfl |rfl |rfl |rfl |rfl |rfl <;> first |rfl |decide)
theorem ym{e:Expr}{x:Ex}{aR:Pos}(hc:Cm P c e x):((backTo aR (starEach [e] X.env)).all (λx=>!x.1)&&(backToKw aR (keywordEach [] X.env)).all (λx=>x.1.isSome)
   && decide ([e].length+([]:List Keyword).length+(if ([]:List Keyword).isEmpty then 0 else 1)<30))=true:=by
 rw[hc.star];rfl
theorem zU(hS:jj P rn)(hX:lN P rn){fns:List Fx}(hF:gj P fns){k':Nat}{Y:Cx}(md:tD P Y.K Y.mg)(hr:cD (k'+2) Y.A)(hcm:Y.calm=true)(hKY:z.K=Y.K)(Aw:c.N.Nodup)(hN:X.N=c.N){f ir:Nat}{fi:Fi}{l:Lt}{xb:Ex}{g Gu g3:G}{r0 r':R}{fx:Fx}{ci:Nat}{C:Addr}
  (h1:P.fn[f]?=some fi) (h5:P.lam=true) (h6:Hj fi ir P.kt=true) (h8:Cv l.params l.scope=true) (h9:Cm P ⟨c.N,l.scope,false,Str.empty⟩ l.body xb)
  (e1:fns[f]?=some fx) (e2:rn.x [] k' xb (g.map noOwn)=some (ci,Gu)) (e3:P.g6[ci]?=some C) (e4:rn.b [] k' (fx.body.drop 2) ((List.replicate fx.n .no).set ir (.dat (.mz C)))=some (.rt r0,g3)) (e5:dj [] g3 r0=some r') {fa:Addr}{fd:FuncData} (F:Jk Y.K fi.name fi.qual fi.st fa fd) (Sc:bS fi.N fi.ps (aE fi.st)) (bd:L2.Binds Y.K fd fi.ps []):xP Y X z g ji l r' fa:=by
 have uA:=hF f fi fx h1 e1;obtain⟨xC,c1,c2,qC,kC⟩:=md.g6 ci C e3;obtain⟨dk,D,mD,qD,hup⟩:=md.kt h5;have L:=tE h8;unfold Hj at h6;split at h6
 .
  rename_i er y ke en Ju Ol hv;obtain⟨Ci,j,np,Vj,py,aR,qj,kp,vq,vo,bG,qk,iO,rest,bY⟩:=L5 hv;obtain⟨p1,p2⟩:=ak h6;obtain⟨⟨q1,q2,q3,q4⟩,⟨q5,q6,q7⟩,⟨q8,q9⟩,q10,q11,q12⟩:=dec p1;subst q1 q2 q3;obtain⟨p3,p4⟩:=ak p2;have pe:=bq (ak p3).1;have py':=bq (ak p3).2;have vy:gR (aE fi.st) y:=by
   have:=(ak p4).1;unfold fZ at this;split at this
   . rename_i e;exact .inl e
   . rename_i e;exact .inr (.inl e)
   . rename_i e;exact .inr (.inr e)
   . cases this
  have lr:Loc (aE fi.st) Ju:=by
   have:=(ak p4).2;unfold d8 at this;split at this
   . rename_i e;exact .inl e
   . rename_i e;exact .inr e
   . cases this
  have hb:=uA.body;rw[bY]at hb;have hrs:wH P ⟨fi.N,aE fi.st,true,fi.qual⟩ rest (fx.body.drop 2):=Mr hb;intro ah σ1 σ0 H1 s1 g1 As A0 M p c' cl pm gX us Q E I1 S1 hp1 hc1 Cl0 XM rv hQ;refine RQ (k:=k') (C:=C) (D:=D) (y:=y) (ke:=P.kt) (en:=Ol) (er:=Ju) (ie:=fi.N.idxOf Ol) (ir:=ir) (Gu:=Gu) (g3:=g3) (r:=r0) (N:=X.N) hKY hr hcm F bY (q4▸Sc) (q4▸bd)
   ⟨Sc.nd,q5,mD,dk,qC,qD,hup C (kS e3),kC,q6,q7,pe.1,pe.2,q8,lr,q9,vy,py'.1,py'.2,q10,q11,q12⟩ L (λXf s H xe zl a1 a2 a3 a4 a5 hr hc hp hzK hzb=>?_) (λbD A outer s H E bE hr zf hzK hzb=>?_) e5 I1 S1 hp1 hc1 Cl0 XM.noOwn (λi l e=>Cg e) rv hQ
  .
   have hci:jq P (vh Xf X.N ji l.scope p (.ref c') cl s H xe).mg ci C:=⟨xC,c1,a4▸c2⟩;refine hX.x (c:=⟨c.N,l.scope,false,Str.empty⟩) ⟨⟨hN,Aw,λx e=>e,λx e=>e,λx e=>e,(λe=>nomatch e),λx e=>?_,(λe=>nomatch e),rfl,rfl,?_,hr.deeper _,λe=>absurd (show Str.empty=("law":Str)from e) ⋯⟩,rfl,hp⟩ (hzK.trans a3.symm) hci h9 (by rw[hzb];exact e2)
   .
    rcases e with e |e
    . cases e
    . exact absurd rfl (L.nl _ (L2.mem_of_lookup e))
   . show tD P Xf.K Xf.mg;rw[a3,a4];exact md
  .
   have e4':rn.b zf.bor k' (fx.body.drop 2) ((List.replicate fi.N.length .no).set ir (.dat (.mz C)))=some (.rt r0,g3):=by rw[hzb,<- uA.n];exact e4
   exact hS.b (pQ Sc md bE hr) rfl hzK hrs e4'
 . cases h6
theorem Ow(ct:bh P k X c)(h4:c.q = "law")(h5:P.lam=true):∃q cc,pq X ji q cc:=by obtain⟨hqn,cc,q,hcode,hC,hq,hbi,Xw⟩:=ct.lam h4 h5;exact⟨q,cc,hq,λp hp _=>Ax hp,hcode,hC,hqn,hbi,Xw⟩
theorem Ms(hS:jj P rn)(hX:lN P rn){fns:List Fx}(hF:gj P fns){k':Nat}(ct:bh P (k'+2) X c)(hK:z.K=X.K){x:Str}{f ir:Nat}{fi:Fi}{params:Arguments}{body:Expr}{scope:Scope}{xb:Ex}{fp Cw pos:Pos}{g Gu g3:G}{r0 r':R}{fx:Fx}{ci:Nat}{C:Addr}
  (h1:P.fn[f]?=some fi) (h2:fi.name=x) (h3:c.sc.names.lookup x=some .globalImplicit) (h4:c.q = "law") (h5:P.lam=true) (h6:Hj fi ir P.kt=true) (h7:pH c.sc scope=true) (h8:Cv params scope=true) (h9:Cm P ⟨c.N,scope,false,Str.empty⟩ body xb)
  (e1:fns[f]?=some fx) (e2:rn.x [] k' xb (g.map noOwn)=some (ci,Gu)) (e3:P.g6[ci]?=some C) (e4:rn.b [] k' (fx.body.drop 2) ((List.replicate fx.n .no).set ir (.dat (.mz C)))=some (.rt r0,g3)) (e5:dj [] g3 r0=some r') :
  aD X z (.Call (.Name x fp) [.Lambda params body scope Cw] [] pos) g r' g:=by
 obtain⟨fa,fd,m1,F,Sc,bd,db⟩:=ct.md.fn f fi h1;obtain⟨q,cc,mk⟩:=Ow ct h4 h5;subst h2;exact Li (l:=⟨params,body,scope,Cw⟩) hK F (ct.ki _ h3) m1 db mk (fF ct h7) (tE h8) (zU hS hX hF ct.md ct.room ct.calm hK ct.nd ct.N h1 h5 h6 h8 h9 e1 e2 e3 e4 e5 F Sc bd)
theorem Mt(hS:jj P rn)(hX:lN P rn){fns:List Fx}(hF:gj P fns)(ct:bh P k X c)(hK:z.K=X.K){f ir:Nat}{fx v:Str}{scope:Scope}{N':List Str}{kb j:Nat}{fp vp cp:Pos}{g:G}(B:Ym c fx scope N' v kb j){l:Lt}{e:Ex}{d:D}(hc:Cm P c (.Call (.Name fx p0) [l.ex] [] p0) (.gG f ir [] e))(ed:Se rn k fns f ir P.g6 e g=some d) :
  ((∃q cc,pq X ji q cc)/\aM X.env.scope l.scope/\eu l.params l.scope)/\pA X z g ji N' (X.N.length+j) scope (.Call (.Name fx fp) [.Name v vp] [] cp) l d:=by
 cases hc.out with
 |@gG x f ir fi params body sc xb _ fp' Cw pos h1 h2 h3 h4 h5 h6 h7 h8 h9=>
  unfold Se at ed;split at ed
  .
   rename_i fxx k' e1;split at ed
   .
    rename_i ci Gu e2;split at ed
    .
     rename_i C e3;split at ed
     .
      rename_i r0 g3 e4;split at ed
      .
       rename_i r' e5;obtain⟨fa,fd,m1,F,Sc,bd,db⟩:=ct.md.fn _ fi h1;subst h2;have Bl:=fF ct h7;have L:=tE h8;obtain⟨dv,bD⟩:=bq B.pl;exact⟨⟨Ow ct h4 h5,Bl,L⟩,RV Bl L F m1 db (λbk=>(ct.blk B.nd bk).ki _ B.gl) (by rw[ct.N];exact B.ix) (λbk=>(ct.blk B.nd bk).vis B.vi) dv bD
        (λbk=>zU (Y:=X.blk N' scope bk) hS hX hF ct.md ct.room ct.calm hK ct.nd ct.N h1 h5 h6 h8 h9 e1 e2 e3 e4 e5 F Sc bd) ed⟩
      . cases ed
     . cases ed
    . cases ed
   . cases ed
  . cases ed
theorem zV(hS:jj P rn)(hX:lN P rn){fns:List Fx}(hF:gj P fns)(ct:bh P k X c)(hK:z.K=X.K){f ir:Nat}{fx v:Str}{scope:Scope}{N':List Str}{kb j:Nat}{fp vp cp:Pos}{g:G}(B:Ym c fx scope N' v kb j) :
  ∀{ls:List Lt}{es:List Ex}{ds:List D},mS (Cm P c) fx f ir P.g6 ls es->zL rn k fns f ir P.g6 es g=some ds->(∀m∈ls,(∃q cc,pq X ji q cc)/\aM X.env.scope m.scope/\eu m.params m.scope)/\d7 (pA X z g ji N' (X.N.length+j) scope (.Call (.Name fx fp) [.Name v vp] [] cp)) ls ds
 |_,_,_,.nil,h=>by cases h;exact⟨(λm h=>nomatch h),.nil⟩
 |l::ls,e::es,_,.cons hc hcs,h=>by
  unfold zL at h;split at h
  .
   rename_i d ed;split at h
   . rename_i ds eds;cases h;obtain⟨q1,q2⟩:=zV hS hX hF ct hK B hcs eds;obtain⟨q3,q4⟩:=Mt hS hX hF ct hK B hc ed;exact⟨λm hm=>(d6.mp hm).elim (λe=>e▸q3) (q1 m),.cons q4 q2⟩
   . cases h
  . cases h
theorem Hx(hS:jj P rn)(hX:lN P rn){fns:List Fx}(hF:gj P fns)(ct:bh P k X c)(hK:z.K=X.K){f ir:Nat}{fx v:Str}{scope:Scope}{N':List Str}{kb j:Nat}{fp vp cp:Pos}{g g':G}{l:Lt}{ls:List Lt}{es:List Ex}{r:R}(hl:mS (Cm P c) fx f ir P.g6 (l::ls) es)(B:Ym c fx scope N' v kb j)(h:aV rn z.bor k fns (.refs f ir P.g6 es) g=some (r,g')) :
  ∃ds,r=.new ds/\(∃q cc,pq X ji q cc)/\(∀m∈l::ls,aM X.env.scope m.scope/\eu m.params m.scope)/\d7 (pA X z g ji N' (X.N.length+j) scope (.Call (.Name fx fp) [.Name v vp] [] cp)) (l::ls) ds:=by
 unfold aV at h;dsimp only at h;split at h
 . rename_i ds e;cases h;obtain⟨q1,q2⟩:=zV hS hX hF ct hK B hl e;exact⟨ds,rfl,(q1 l dA).1,λm hm=>(q1 m hm).2,q2⟩
 . cases h
def Yz(X:Cx)(z:Z)(e:Expr)(g:G)(o:Option (R×G)):Prop:=∀r g',o=some (r,g')->aD X z e g r g'
theorem Yz.none{e:Expr}{g:G}:Yz X z e g none:=λ_ _ h=>nomatch h
theorem Yz.some{e:Expr}{g g':G}{r:R}(h:aD X z e g r g'):Yz X z e g (some (r,g')):=λ_ _ q=>by cases q;exact h
theorem Mu(hS:jj P rn)(hX:lN P rn){fns:List Fx}(hF:gj P fns)(ct:bh P k X c)(hK:z.K=X.K){e:Expr}{x:Ex}{g:G}(hc:Cm P c e x):Yz X z e g (aV rn z.bor k fns x g):=by
 cases hc.out with
 |int=>exact .some (Ql)
 |bool=>exact .some (WR)
 |none=>exact .some (Qm)
 |str=>exact .some (Qn)
 |var h1 h2 h3=>
  obtain⟨hd,bE⟩:=bq h3;unfold aV;dsimp only;split
  . rename_i e1;exact .some (Qo (by rw[ct.N];exact h1) (ct.vis h2) hd bE e1)
  . rename_i e1;exact .some (J0 (by rw[ct.N];exact h1) (ct.vis h2) hd bE e1)
  . exact .none
 |glob h1 h2=>obtain⟨hd,v,u,q1,q2,q3⟩:=ct.md.ct _ _ h1;exact .some (J1 (ct.ki _ h2) q1 q2 (hK▸q3) hd)
 |bin h1 h2=>
  unfold aV;dsimp only;split
  .
   rename_i r1 r2 g2 e1;obtain⟨s1,s2,g1,q1,q2,q3⟩:=iW e1;cases q3;split
   .
    rename_i d1 d2 p1 p2;split
    . rename_i r0 e3;exact .some (Qp (bF (hS.e ct hK h1 q1)) (bF (hS.e ct hK h2 q2)) p1 p2 (Sf hK e3))
    . exact .none
   . exact .none
  . exact .none
 |cmp h1 h2 h3=>
  unfold aV;dsimp only;split
  .
   rename_i r1 r2 g2 e1;obtain⟨s1,s2,g1,q1,q2,q3⟩:=iW e1;cases q3;split
   .
    rename_i d1 d2 p1 p2;split
    . rename_i r0 e3;exact .some (Qq (bF (hS.e ct hK h1 q1)) (bF (hS.e ct hK h2 q2)) p1 p2 (jC hK ct.room e3) h3)
    . exact .none
   . exact .none
  . exact .none
 |chain h1 h2 h3=>
  unfold aV;dsimp only;split
  .
   rename_i d1 g1 e1;split
   . rename_i b g2 e2;exact .some (Fp (aN hS ct hK h1 e1) (yj hS ct hK h2 e2) h3)
   . exact .none
  . exact .none
 |neg h1=>
  unfold aV;dsimp only;split
  . rename_i i g1 e1;exact .some (WW (aN hS ct hK h1 e1) rfl QV)
  . exact .none
 |not h1=>
  unfold aV;dsimp only;split
  . rename_i b g1 e1;exact .some (Qz (hS.e ct hK h1 e1))
  . exact .none
 |and h1=>exact λ_ _ h=>zR hS ct hK h1 h
 |or h1=>exact λ_ _ h=>Hu hS ct hK h1 h
 |ite h1 h2 h3=>
  unfold aV;dsimp only;split
  . rename_i g1 e1;exact λ_ _ h=>QB (hS.t ct hK h1 e1) (hS.e ct hK h2 h)
  . rename_i g1 e1;exact λ_ _ h=>QC (hS.t ct hK h1 e1) (hS.e ct hK h3 h)
  . exact .none
 |tup h1=>
  unfold aV;dsimp only;split
  .
   rename_i ds g1 e1;split
   . rename_i hl;exact .some (QF (kj hS ct hK h1 e1) (pP _) hl)
   . exact .none
  . exact .none
 |lst h1=>
  unfold aV;dsimp only;split
  .
   rename_i ds g1 e1;split
   . rename_i hl;exact .some (QG (kj hS ct hK h1 e1) (pP _) hl)
   . exact .none
  . exact .none
 |ix h1 h2=>
  unfold aV;dsimp only;split
  .
   rename_i r1 r2 g2 e1;obtain⟨s1,s2,g1,q1,q2,q3⟩:=iW e1;cases q3;split
   .
    rename_i d1 d2 p1 p2;split
    . rename_i r0 e3;exact .some (WT (bF (hS.e ct hK h1 q1)) (bF (hS.e ct hK h2 q2)) p1 p2 (Sh hK e3) h2.Mm)
    . exact .none
   . exact .none
  . exact .none
 |slice h1 h2 h3=>
  unfold aV;dsimp only;split
  .
   rename_i r0 g1 e1;have q:=bF (hS.e ct hK h1 e1);split
   .
    rename_i i g2 e2;have q2:=vO hS ct hK h2 e2;split
    .
     rename_i j g3 e3;have q3:=vO hS ct hK h3 e3;split
     . rename_i l e4;rw[e4]at q;exact .some (Bq hK q q2 q3)
     . rename_i l e4;rw[e4]at q;exact .some (Bp hK q q2 q3)
     .
      split
      . rename_i e5;exact .some (Bo (d:=.non) hK q q2 q3 e5)
      . exact .none
    . exact .none
   . exact .none
  . exact .none
 |call h1 h2 h3 h4=>
  subst h2;unfold aV;dsimp only;split
  .
   rename_i fx k' Yx uA;split
   . rename_i rs g1 e1;exact λ_ _ h=>Hv hS ct hK h1 (hF _ _ _ h1 uA) h3 h4 (kr hS ct hK h4 e1) h
   . exact .none
  . exact .none
 |@blt x b e es xs p pos h1 h2 h3 h4=>
  unfold aV;dsimp only;split
  .
   rename_i rs g1 e1;split
   .
    rename_i ds e2;split
    .
     rename_i r0 e3;have ha:=kr hS ct hK h4 e1;have bE:=Sj hK ct.calm e3;have bY:starEach (e::es) X.env=(false,eval e X.env)::starEach es X.env:=by cases h4 with |cons h _=>exact h.star _
     have gQ:(backTo pos (starEach es X.env)).any (·.1)=false:=by cases h4 with |cons _ h=>exact h.plain
     subst h1;cases b with
     |len=>exact .some (fV ha e2 bE (ct.ki _ h3) (ct.md.bn _ h2) rfl ⋯ ⋯ bY gQ)
     |list=>exact .some (kY ha e2 bE (ct.ki _ h3) (ct.md.bn _ h2) rfl ⋯ ⋯ bY gQ)
     |tuple=>exact .some (kY ha e2 bE (ct.ki _ h3) (ct.md.bn _ h2) rfl ⋯ ⋯ bY gQ)
     |max=>exact .some (fV ha e2 bE (ct.ki _ h3) (ct.md.bn _ h2) rfl ⋯ ⋯ bY gQ)
     |min=>exact .some (fV ha e2 bE (ct.ki _ h3) (ct.md.bn _ h2) rfl ⋯ ⋯ bY gQ)
     |str=>exact .some (kY ha e2 bE (ct.ki _ h3) (ct.md.bn _ h2) rfl ⋯ ⋯ bY gQ)
     |all=>exact .some (fV ha e2 bE (ct.ki _ h3) (ct.md.bn _ h2) rfl ⋯ ⋯ bY gQ)
     |sorted=>exact .some (fV ha e2 bE (ct.ki _ h3) (ct.md.bn _ h2) rfl ⋯ ⋯ bY gQ)
     |sum=>exact .some (fV ha e2 bE (ct.ki _ h3) (ct.md.bn _ h2) rfl ⋯ ⋯ bY gQ)
    . exact .none
   . exact .none
  . exact .none
 |@rH a xa T n p pT pos h1 h2 h3 h4 h5 h6 h7=>
  unfold aV;dsimp only;split
  .
   rename_i r0 g1 e1;split
   .
    rename_i d e2;obtain⟨t1,_⟩:=Hw ct (x9.cons (pos:=pT) h4 h5 h6 h7 .nil);cases t1 with
    |cons t1 _=>exact .some (Q6 hK (bF (hS.e ct hK h1 e1)) e2 (λ_ _ _ p=>vK p h7) (ct.ki _ h3) (ct.md.bn _ h2) rfl t1.gl t1.mg t1.bt t1.nn t1.db (h1.star _))
   . exact .none
  . exact .none
 |qI h1 h2 h3 h4 h5=>
  unfold aV;dsimp only;split
  .
   rename_i r0 g1 e1;split
   . rename_i d e2;obtain⟨t1,t2⟩:=Hw ct h5;exact .some (KH hK (bF (hS.e ct hK h1 e1)) e2 t1 ⋯ (λ_ _ _ p=>rK p t2) (ct.ki _ h3) (ct.md.bn _ h2) rfl (h1.star _))
   . exact .none
  . exact .none
 |gF h1 h2=>
  unfold aV;dsimp only;split
  .
   rename_i l g1 e1;split
   .
    rename_i i g2 e2;split
    .
     rename_i hi;obtain⟨m,rfl⟩:∃m:Nat,i=m:=⟨i.toNat,by lia⟩
     exact .some (R8 hK (aN hS ct hK h1 e1) (aN hS ct hK h2 e2))
    . exact .none
   . exact .none
  . exact .none
 |emp=>exact .some (RD)
 |peek h1=>
  unfold aV;dsimp only;split
  .
   rename_i hb;have hb:z.bor=[]:=List.isEmpty_iff.mp hb;split
   .
    rename_i d g1 e1;split
    . rename_i hf;exact .some (Lk hb hf (hS.e ct hK h1 (by rw[hb];exact e1)))
    . exact .none
   . exact .none
  . exact .none
 |stk=>exact .none
 |@rJ a xa T l p pT pos h1 h2 h3 h4 h5=>
  unfold aV;dsimp only;obtain⟨db,cv,hcv,hn,hC⟩:=ct.md.ups _ _ h4;have cls:∃w:V,(∀u,RelV w u->u=cv)/\PE X (.Name T pT) (tC w):=by
   rcases hcv with ⟨m1,D,rfl⟩ |⟨m1,m2,m3,n,rfl⟩
   . exact⟨.ref D,λu r=>r,yP (ct.ki _ h5) m1 rfl db⟩
   . exact⟨.ty n,λu r=>r,sf (ct.ki _ h5) (ct.md.bn _ m1) m3 rfl m2 db⟩
  obtain⟨w,hw,pw⟩:=cls;split
  .
   rename_i r0 g1 e1;split
   .
    rename_i C e2;split
    . rename_i b e3;exact .some (Gx hK (bF (hS.e ct hK h1 e1)) e2 (λ_ _ _ _=>hC C b e3) (ct.ki _ h3) (ct.md.bn _ h2) rfl hw pw (h1.star _))
    . exact .none
   . rename_i e2;exact .some (Gx hK (bF (hS.e ct hK h1 e1)) e2 (λ_ _ _ _=>hn) (ct.ki _ h3) (ct.md.bn _ h2) rfl hw pw (h1.star _))
   . exact .none
  . exact .none
 |@gG x f ir fi params body scope xb ca fp Cw pos h1 h2 h3 h4 h5 h6 h7 h8 h9=>
  unfold aV;dsimp only;split
  .
   rename_i fx k' e1;split
   .
    rename_i ci Gu e2;split
    .
     rename_i C e3;split
     .
      rename_i r0 g3 e4;split
      .
       rename_i r' e5;rcases h3 with ⟨rfl,h3⟩ |rfl
       . exact .some (Ms hS hX hF ct hK h1 h2 h3 h4 h5 h6 h7 h8 h9 e1 e2 e3 e4 e5)
       . exact .some (nomatch e3)
      . exact .none
     . exact .none
    . exact .none
   . exact .none
  . exact .none
 |comp h1 h2 h3 h4 h5 h6 h7 h8=>
  unfold aV;dsimp only;split
  . rename_i acc g1 e1;obtain⟨aj,g1,gE,w1,w2,w3,w4,w5,rfl⟩:=vR hS ct hK h3 h4 h5 h6 h7 h8 e1;exact .some (Ku (fF ct h1) ct.calm (by rw[ct.N];exact eH h2) w1 w2 w3 w4 w5 λy=>h6.folded y)
  . exact .none
 |cz h1 h2 h3 h4 h4' h5 h5' h6 h7 h8 h9 h10=>
  unfold aV;dsimp only;split
  . rename_i acc g1 e1;obtain⟨aj,g1,gE,w1,w2,w3,w4,w5,w6,w7,rfl⟩:=rL hS ct hK h3 h4 h4' h5 h5' h6 h7 h8 h9 h10 e1;exact .some (GK (fF ct h1) ct.calm (by rw[ct.N];exact eH h2) w1 w2 w3 w4 w5 w6 w7 (λy=>h6.folded y) λb y=>h8.folded y)
  . exact .none
 |@eW a xa lp p rp pos h1 h2 h3 h4 h5=>
  unfold aV;dsimp only;split
  .
   rename_i j g1 e1;split
   .
    rename_i hj;obtain⟨hj,hl⟩:=hj;simp only[Lr,eC,hU]at hj;have q:=Fw (z:=z) (lp:=lp) (pos:=pos) (rg_1 (p:=p) (rp:=rp) (cF (aN hS ct hK h1 e1) eL (h1.star _)) (ct.ki _ h3) (ct.md.bn _ h2) (h1.star _)) ct.calm (ct.ki _ h5) (ct.md.bn _ h4) rfl ⟨by lia,by lia,hj.1,hj.2⟩ (by rw[Int.sub_zero];exact hl)
    rw[Int.sub_zero]at q;exact .some (q)
   . exact .none
  . exact .none
 |append h1 h2 h3 h4 h5=>
  obtain⟨hd,bE⟩:=bq h3;unfold aV;dsimp only;split
  .
   rename_i l0 e0;split
   .
    rename_i d g1 e1;split
    .
     rename_i l e2;split
     . rename_i hl;exact .some (Bf (by rw[ct.N];exact h1) (ct.vis h2) hd bE e0 (cF (aN hS ct hK h4 e1) eL (h4.star _)) e2 hl rfl (ym h4) h5 (h4.star _))
     . exact .none
    . exact .none
   . exact .none
  . exact .none
 |extend h1 h2 h3 h4 h5=>
  obtain⟨hd,bE⟩:=bq h3;unfold aV;dsimp only;split
  .
   rename_i l0 e0;split
   .
    rename_i d g1 e1;split
    .
     rename_i l e2;split
     . rename_i hl;exact .some (Bs (by rw[ct.N];exact h1) (ct.vis h2) hd bE e0 (cF (aN hS ct hK h4 e1) eL (h4.star _)) e2 hl rfl (ym h4) h5 (h4.star _))
     . exact .none
    . exact .none
   . exact .none
  . exact .none
 |iF h1 h2 h3 h4 h5=>
  obtain⟨hd,bE⟩:=bq h3;unfold aV;dsimp only;split
  .
   rename_i l0 e0;split
   .
    rename_i j g1 e1;split
    .
     rename_i l e2;split
     .
      rename_i n e3;split
      .
       rename_i d e4;split
       . rename_i hl;exact .some (Fc (by rw[ct.N];exact h1) (ct.vis h2) hd bE e0 (cF (aN hS ct hK h4 e1) eL (h4.star _)) e2 e3 e4 hl rfl (ym h4) h5 (h4.star _))
       . exact .none
      . exact .none
     . exact .none
    . exact .none
   . exact .none
  . exact .none
theorem Hy(hS:jj P rn)(hX:lN P rn){fns:List Fx}(hF:gj P fns)(ct:bh P k X c)(hK:z.K=X.K){e:Expr}{x:Ex}{g g':G}{r:R}(hc:Cm P c e x)(h:aV rn z.bor k fns x g=some (r,g')):aD X z e g r g':=Mu hS hX hF ct hK hc r g' h
end
section
theorem Hz(hS:jj P rn)(ct:bh P k X c)(hK:z.K=X.K){e:Expr}{x:Ex}{g g':G}{b:Bool}(hc:Cm P c e x)(h:stepT rn z.bor k x g=some (b,g')):cg X z e g b g':=by
 have plain:(match rn.e z.bor k x g with |some (r,g1)=>(match pk (norm r) g1 with |some d=>(match KC d with |some c=>some (c,g1) |none=>none) |none=>none) |none=>none)=some (b,g')->
   (∀whole,isTrue e X.env whole=(do let v <- whole;standAt e.pos;holding [v] (truthy v)))->cg X z e g b g':=by
  intro h he;split at h
  .
   rename_i r g1 e1;split at h
   .
    rename_i d e2;split at h
    . rename_i b' e3;cases h;exact Fv hK (bF (hS.e ct hK hc e1)) e2 e3 he
    . cases h
   . cases h
  . cases h
 cases hc.out with
 |int=>exact plain h λ_=>rfl
 |bool=>exact plain h λ_=>rfl
 |none=>exact plain h λ_=>rfl
 |str=>exact plain h λ_=>rfl
 |var h1 h2 h3=>exact plain h λ_=>rfl
 |glob h1 h2=>exact plain h λ_=>rfl
 |bin h1 h2=>exact plain h λ_=>rfl
 |cmp h1 h2 h3=>
  unfold stepT at h;dsimp only at h;split at h
  .
   rename_i r1 r2 g2 e1;obtain⟨s1,s2,g1,q1,q2,q3⟩:=iW e1;cases q3;split at h
   .
    rename_i d1 d2 p1 p2;split at h
    . rename_i r0 e3;cases h;exact Qs (bF (hS.e ct hK h1 q1)) (bF (hS.e ct hK h2 q2)) p1 p2 (jC hK ct.room e3) h3
    . cases h
   . cases h
  . cases h
 |chain h1 h2 h3=>
  unfold stepT at h;dsimp only at h;split at h
  . rename_i d1 g1 e1;exact Fq (aN hS ct hK h1 e1) (yj hS ct hK h2 h) h3
  . cases h
 |neg h1=>exact plain h λ_=>rfl
 |not h1=>
  unfold stepT at h;dsimp only at h;split at h
  . rename_i b' g1 e1;cases h;exact Qt (hS.t ct hK h1 e1)
  . cases h
 |and h1=>exact (vN hS ct hK h1 h).tr
 |or h1=>exact (zS hS ct hK h1 h).tr
 |ite h1 h2 h3=>cases h
 |tup h1=>exact plain h λ_=>rfl
 |lst h1=>exact plain h λ_=>rfl
 |ix h1 h2=>exact plain h λ_=>rfl
 |slice h1 h2 h3=>exact plain h λ_=>rfl
 |call h1 h2 h3 h4=>exact plain h λ_=>rfl
 |blt h1 h2 h3 h4=>exact plain h λ_=>rfl
 |rH h1 h2 h3 h4 h5 h6 h7=>exact plain h λ_=>rfl
 |qI h1 h2 h3 h4 h5=>exact plain h λ_=>rfl
 |rJ h1 h2 h3 h4 h5=>exact plain h λ_=>rfl
 |gF h1 h2=>exact plain h λ_=>rfl
 |emp=>exact plain h λ_=>rfl
 |peek h1=>exact plain h λ_=>rfl
 |stk=>exact plain h λ_=>rfl
 |gG h1 h2 h3 h4 h5 h6 h7 h8 h9=>exact plain h λ_=>rfl
 |cz h1 h2 h3 h4 h5 h6 h7 h8 h9 h10 h11 h12=>exact plain h λ_=>rfl
 |comp h1 h2 h3 h4 h5 h6 h7 h8=>exact plain h λ_=>rfl
 |eW h1 h2 h3 h4 h5=>exact plain h λ_=>rfl
 |append h1 h2 h3 h4 h5=>exact plain h λ_=>rfl
 |extend h1 h2 h3 h4 h5=>exact plain h λ_=>rfl
 |iF h1 h2 h3 h4 h5=>exact plain h λ_=>rfl
theorem tR(ct:bh P k X c):PassesOwn (model X.prog X.w) X.A X.env X.xe:=by rw[ct.xe];exact PassesOwn.never
theorem pR{T:Tg}{body:List Stmt}{b:G->Option (Fl×G)}(hb:∀{g g':G}{f:Fl},b g=some (f,g')->dY X z body g f g'):∀{aj:List D}{g g':G}{f:Fl},jo T b aj g=some (f,g')->eS X z body T aj g f g'
 | [],_,_,_,h=>by cases h;exact .nil
 |d::l,_,_,_,h=>by
  unfold jo at h;split at h
  . cases h
  .
   rename_i g0 e0;split at h
   . cases h
   . rename_i g1 e1;exact .next e0 (hb e1) (pR hb h)
   . rename_i g1 e1;exact .cont e0 (hb e1) (pR hb h)
   . rename_i g1 e1;cases h;exact .brk e0 (hb e1)
   . rename_i g1 e1;cases h;exact .ret e0 (hb e1)
theorem yp{ce:Expr}{body:List Stmt}{t:G->Option (Bool×G)}{b:G->Option (Fl×G)}(ht:∀{g g':G}{v:Bool},t g=some (v,g')->cg X z ce g v g')(hb:∀{g g':G}{f:Fl},b g=some (f,g')->dY X z body g f g') :
  ∀{n:Nat}{g g':G}{f:Fl},Oj t b n g=some (f,g')->nj X z ce body n g f g'
 | 0,_,_,_,h=>by cases h
 |n+1,_,_,_,h=>by
  unfold Oj at h;split at h
  . cases h
  . rename_i g1 e1;cases h;exact .done (ht e1)
  .
   rename_i g1 e1;split at h
   . cases h
   . rename_i g2 e2;exact .next (ht e1) (hb e2) (yp ht hb h)
   . rename_i g2 e2;exact .cont (ht e1) (hb e2) (yp ht hb h)
   . rename_i g2 e2;cases h;exact .brk (ht e1) (hb e2)
   . rename_i g2 e2;cases h;exact .ret (ht e1) (hb e2)
theorem gq{P:Pg}{c:Ct}{e:Expr}{x:Ex}(h:Cm P c e x)(hn:∀a b s p,e≠.ListComp a b s p)(t:Option Expr)(l:Nat)(env:Env):swapsWith e t l env=pure false:=by have hs:=h.CJ;cases e <;> first |rfl |exact absurd rfl (hn _ _ _ _) |exact Bool.noConfusion (show false=true from hs)
theorem ku(ct:bh P k X c)(gY:c.df=true){a:Expr}{b:List Comprehension}{s:Scope}{p py:Pos}{y:Str}{l:Nat}(hl:d8 c y=true):swapsWith (.ListComp a b s p) (some (.Name y py)) l X.env=pure (G9 c y py p s):=by
 show (pure (X.env.blockKind==.function&&X.env.kindOf y==some .local&&py.line==(Expr.ListComp a b s p).pos.line&&!(s.names.any λ(n,k)=>n==y&&(k==.local||k==.cell))):Sem Bool)=_
 rw[ct.bk gY];have e:(X.env.kindOf y==some .local)=(c.sc.names.lookup y==some .local):=by
  unfold d8 at hl;split at hl
  . rename_i e;rw[e];show (X.env.scope.names.lookup y==_)=_;rw[ct.Vs y e]
  . rename_i e;rw[e];show (X.env.scope.names.lookup y==_)=_;rw[ct.ZW gY y e]
  . cases hl
 rw[e];rfl
theorem HB{e:Expr}{xe:Ex}{x y:Str}{ix iy:Expr}{pn Gh bJ iD pt:Pos}{kt:Nat}{env:Env}(h:Cm P c e xe):swappedStores [.Tuple [.Subscript (.Name x pn) ix bJ,.Subscript (.Name y Gh) iy iD] kt pt] e env=pure none:=by
 have hs:=h.CJ;cases e with
 |Tuple es k p=>
  show (if _ then _ else _:Sem (Option (List Str)))=_
  split
  . rfl
  .
   split
   . rfl
   . exact fN rfl
 |_=>first |rfl |exact Bool.noConfusion (show false=true from hs)
theorem yq{x:Str}{pn bJ:Pos}{ix:Expr}{xi:Ex}{X:Cx}(h:Cm P c ix xi):∀v,assign (.Subscript (.Name x pn) ix bJ) X.env v=(do
   let ov <- holding [v] (eval (.Name x pn) X.env)
   let iv <- holding [v,ov] (eval ix X.env)
   standAt bJ
   holding [v,ov,iv] (setItem ov iv v)
   release [v,ov,iv] []):=by
 have hs:=h.CJ;cases ix <;> first |exact λ_=>rfl |exact Bool.noConfusion (show false=true from hs)
theorem Tw{es:List Expr}{k0:Nat}{pt:Pos}{e:Expr}{x:Ex}{env:Env}(h:Cm P c e x)(hn:∀vs k p,e≠.Tuple vs k p):swappedStores [.Tuple es k0 pt] e env=pure none:=by have hs:=h.CJ;cases e <;> first |rfl |exact absurd rfl (hn _ _ _) |exact Bool.noConfusion (show false=true from hs)
theorem Tz{es:List Expr}{k0:Nat}{pt:Pos}{e:Expr}(ct:bh P k X c)(h:Hf c es e=true):swappedStores [.Tuple es k0 pt] e X.env=pure none:=by
 unfold Hf at h;split at h
 .
  rename_i ea eb;obtain⟨h1,h2⟩:=ak h;obtain⟨h3,h4⟩:=ak h2;split at h4
  .
   rename_i x ex;split at h4
   .
    rename_i y ey;obtain⟨px,rfl⟩:∃p,ea=.Name x p:=by cases ea <;> first | (cases ex;exact⟨_,rfl⟩) |cases ex
    obtain⟨py,rfl⟩:∃p,eb=.Name y p:=by cases eb <;> first | (cases ey;exact⟨_,rfl⟩) |cases ey
    obtain⟨vs,k2,pt2,rfl,hv⟩:∃vs k p,e=.Tuple vs k p/\vs.length=2:=by cases e <;> first |exact⟨_,_,_,rfl,lS h1⟩ |cases h1
    obtain⟨a,b,rfl⟩:∃a b,vs=[a,b]:=by
     match vs,hv with
     | [a,b],_=>exact⟨a,b,rfl⟩
    have hn:(X.env.kindOf x==some NameKind.local)=false\/(X.env.kindOf y==some NameKind.local)=false:=by
     rcases Bool.or_eq_true_iff.mp h4 with h2 |h2
     . exact .inl (by have hx:X.env.kindOf x=some .cell:=ct.ZW h3 x (lS h2);rw[hx];rfl)
     . exact .inr (by have hx:X.env.kindOf y=some .cell:=ct.ZW h3 y (lS h2);rw[hx];rfl)
    show (if _ then _ else _:Sem (Option (List Str)))=_
    split
    . rfl
    .
     show (if _ then _ else _:Sem (Option (List Str)))=_
     split
     . rfl
     .
      show (if _ then _ else _:Sem (Option (List Str)))=_
      rw[fN];rcases hn with hn |hn
      . simp only[l8,List.filterMap_nil,hn,Bool.false_and,AN,CD];split <;> simp
      . simp only[l8,List.filterMap_nil,hn,Bool.false_and,AN,CD];split <;> simp
   . cases h4
  . cases h4
 . cases h
theorem TF{es:List Expr}{k0:Nat}{pt:Pos}{e:Expr}{x:Ex}(ct:bh P k X c)(h:Cm P c e x)(hn:(∀vs k p,e≠.Tuple vs k p)\/Hf c es e=true):swappedStores [.Tuple es k0 pt] e X.env=pure none:=
 hn.elim (Tw h) (Tz ct)
theorem TJ{y:Str}{pn bJ:Pos}{ix e:Expr}{x:Ex}{env:Env}(h:Cm P c e x):swappedStores [.Subscript (.Name y pn) ix bJ] e env=pure none:=by have hs:=h.CJ;cases e <;> first |rfl |exact Bool.noConfusion (show false=true from hs)
theorem pS(hS:jj P rn)(ct:bh P k X c)(gY:c.df=true)(hK:z.K=X.K){s:Stmt}{x:Sm}{g g':G}{f:Fl}(hc:Dy P c s x)(h:aH rn z.bor k x g=some (f,g')):fW X z s g f g':=by
 cases hc.out with
 |ret h1=>
  unfold aH at h;dsimp only at h;split at h
  . rename_i r g1 e1;cases h;exact Ra (hS.e ct hK h1 e1)
  . cases h
 |expr h1 h2=>
  unfold aH at h;dsimp only at h;split at h
  . rename_i r g1 e1;cases h;exact Kf (hS.e ct hK h1 e1) (gq h1 h2 _ _ _)
  . cases h
 |@set y i e x py pos h1 h2 h3 h4=>
  have nm:=ct.nm h1 h2;have hsw:swapsWith e (some (.Name y py)) pos.line X.env=pure false:=by
   by_cases hn:∀a b s p,e≠.ListComp a b s p
   . exact gq h3 hn _ _ _
   .
    have:∃a b s p,e=.ListComp a b s p:=Classical.byContradiction λq=>hn λa b s p e=>q ⟨a,b,s,p,e⟩
    obtain⟨a,b,s,p,rfl⟩:=this;rw[ku ct gY h2,h4 a b s p rfl]
  unfold aH at h;dsimp only at h;split at h
  . cases h
  .
   rename_i hb;split at h
   .
    rename_i l g1 e1;split at h
    . rename_i hl;cases h;exact Kh nm.nd nm.ix nm.lc (hS.e ct hK h3 e1) hl hsw nm.fn hb
    . cases h
   .
    rename_i r g1 _ e1;split at h
    . rename_i d g2 e2;cases h;exact Kg nm.nd nm.ix nm.lc (Ht (hS.e ct hK h3 e1) e2) hsw nm.fn hb
    . cases h
   . cases h
 |@setC y i a b s p n kk T it co x py pos h1 h2 h3=>
  have hl:c.sc.names.lookup y=some .local:=by unfold G9 at h2;simp only[eC]at h2;exact eq_of_beq h2.1.1
  have bY:d8 c y=true:=by unfold d8;rw[hl]
  have nm:=ct.nm h1 bY;unfold aH at h;dsimp only at h;split at h
  . cases h
  .
   rename_i hb;split at h
   .
    rename_i acc g1 e1;split at h
    .
     rename_i hi;cases h;cases h3.out with
     |comp k1 k2 k3 k4 k5 k6 k7 k8=>obtain⟨aj,g1,gE,w1,w2,w3,w4,w5,rfl⟩:=vR hS ct hK k3 k4 k5 k6 k7 k8 e1;exact Kv (fF ct k1) ct.calm (by rw[ct.N];exact eH k2) w1 w2 w3 w4 w5 nm.nd nm.ix (ct.Vs _ hl) hb hi (by rw[ku ct gY bY,h2]) λy=>k6.folded y
    . cases h
   . cases h
 |@Om y i a b s p n kk T1 T nq it c1 co x py pos h1 h2 h3=>
  have hl:c.sc.names.lookup y=some .local:=by unfold G9 at h2;simp only[eC]at h2;exact eq_of_beq h2.1.1
  have bY:d8 c y=true:=by unfold d8;rw[hl]
  have nm:=ct.nm h1 bY;unfold aH at h;dsimp only at h;split at h
  . cases h
  .
   rename_i hb;split at h
   .
    rename_i acc g1 e1;split at h
    .
     rename_i hi;cases h;cases h3.out with
     |cz k1 k2 k3 k4 k4' k5 k5' k6 k7 k8 k9 k10=>obtain⟨aj,g1,gE,w1,w2,w3,w4,w5,w6,w7,rfl⟩:=rL hS ct hK k3 k4 k4' k5 k5' k6 k7 k8 k9 k10 e1;exact GL (fF ct k1) ct.calm (by rw[ct.N];exact eH k2) w1 w2 w3 w4 w5 w6 w7 nm.nd nm.ix (ct.Vs _ hl) hb hi (by rw[ku ct gY bY,h2]) (λy=>k6.folded y) λb y=>k8.folded y
    . cases h
   . cases h
 |@tgt es k0 pt pos T e x h1 h2 h3 h4=>
  unfold aH at h;dsimp only at h;split at h
  . cases h
  .
   rename_i hb;split at h
   .
    rename_i d g1 e1;split at h
    .
     rename_i g2 e2;cases h;obtain⟨t,q,kt⟩:=vQ (z:=z) ct hK h1 λi hi hm=>hb (by rw[List.any_eq_true];exact⟨i,hi,xI hm⟩)
     obtain⟨te,qe,ke⟩:=aN hS ct hK h2 e1;have hsw:swapsWithSole [.Tuple es k0 pt] e pos.line X.env=pure false:=gq h2 h4 (some (.Tuple es k0 pt)) pos.line X.env;have bY:swappedStores [.Tuple es k0 pt] e X.env=pure none:=TF ct h2 h3;refine⟨_,wM qe q hsw bY rfl,λσ As M H E s k2=>ke σ As M H _ s λv H1 aO M1 s1 cI R=>?_⟩
     exact kt d g1 _ e2 v σ aO M1 H1 _ s1 R λσ' aC s' _=>k2 σ' aC M1 H1 s' cI
    . cases h
   . cases h
 |@item y i ix e xj x pn bJ pos h1 h2 h3 h4 h5 h6=>
  obtain⟨hd,bE⟩:=bq h3;unfold aH at h;dsimp only at h;split at h
  .
   rename_i d g1 e1;split at h
   .
    rename_i l0 e2;split at h
    .
     rename_i n g2 e3;split at h
     .
      rename_i l e4;split at h
      . rename_i m e5;cases h;have hsw:swapsWithSole [.Subscript (.Name y pn) ix bJ] e pos.line X.env=pure false:=gq h5 h6 (some (.Subscript (.Name y pn) ix bJ)) pos.line X.env;have bY:swappedStores [.Subscript (.Name y pn) ix bJ] e X.env=pure none:=TJ h5;exact Kl (by rw[ct.N];exact h1) (ct.vis h2) hd bE (aN hS ct hK h5 e1) e2 (aN hS ct hK h4 e3) e4 e5 (yq h4) hsw bY rfl
      . cases h
     . cases h
    . cases h
   . cases h
  . cases h
 |@items2 x y i j ix iy e xi yi xe pn Gh bJ iD pt pos kt h1 h2 h3 h4 h5 h6 h7 h8 h9 h10=>
  obtain⟨hd,bE⟩:=bq h3;obtain⟨hd2,RC⟩:=bq h6;unfold aH at h;dsimp only at h;split at h
  .
   rename_i d1 d2 g1 e1;split at h
   .
    rename_i l0 e2;split at h
    .
     rename_i n1 g2 e3;split at h
     .
      rename_i l e4;split at h
      .
       rename_i m1 e5;split at h
       .
        rename_i l1 e6;split at h
        .
         rename_i n2 g3 e7;split at h
         .
          rename_i l2 e8;split at h
          . rename_i m2 e9;cases h;have hsw:swapsWithSole [.Tuple [.Subscript (.Name x pn) ix bJ,.Subscript (.Name y Gh) iy iD] kt pt] e pos.line X.env=pure false:=gq h9 h10 (some (.Tuple [.Subscript (.Name x pn) ix bJ,.Subscript (.Name y Gh) iy iD] kt pt)) pos.line X.env;exact BX ct.calm hK (by rw[ct.N];exact h1) (ct.vis h2) hd bE (by rw[ct.N];exact h4) (ct.vis h5) hd2 RC (aN hS ct hK h9 e1) e2 (aN hS ct hK h7 e3) e4 e5 e6 (aN hS ct hK h8 e7) e8 e9 (yq h7) (yq h8) hsw (HB h9)
          . cases h
         . cases h
        . cases h
       . cases h
      . cases h
     . cases h
    . cases h
   . cases h
  . cases h
 |ite h1 h2 h3=>
  unfold aH at h;dsimp only at h;split at h
  . rename_i g1 e1;exact N7 (hS.t ct hK h1 e1) (by rw[fN rfl];exact hS.b ct gY hK h2 h)
  . rename_i g1 e1;exact N7 (hS.t ct hK h1 e1) (by rw[gN lL];exact hS.b ct gY hK h3 h)
  . cases h
 |loop h1 h2 h3=>
  unfold aH at h;dsimp only at h;split at h
  . cases h
  .
   rename_i hb;split at h
   . rename_i aj g1 e1;exact Ri (tR ct) ct.calm (tL hS ct hK (zT h1) h2 e1) (vQ ct hK h1 λi hi hm=>hb (by rw[List.any_eq_true];exact⟨i,hi,xI hm⟩)) (pR (λe=>hS.b ct gY hK h3 e) h) λy=>h2.folded y
   . cases h
 | «while» h1 h2=>exact Ft (tR ct) (yp (λe=>hS.t ct hK h1 e) (λe=>hS.b ct gY hK h2 e) h)
 |raise h1 h2 h3=>cases h
 |stuck=>cases h
theorem yt(hS:jj P rn)(ct:bh P k X c)(gY:c.df=true)(hK:z.K=X.K){ss:List Stmt}{x:Sm}{g g':G}{f:Fl}(h:Hl P (Cm P c) (Dy P c) c ss x)(e:aH rn z.bor k x g=some (f,g')):nk X z ss g f g':=by
 cases h with
 |@rows y x mn a b tn im it iy ia ib scope N' kb j lp px rp mp Vr GX ap py pa pb iO y1 y2 a1 a2 b1 b2 Vl Vn Og Oi Oh Jr Vm Vo GR rpos yr tp tk h1 h2 h3 h4 h5 h6 h7 h8 h9 h10=>
  unfold aH at e;dsimp only at e;split at e
  .
   rename_i m ao gm gt;split at e
   .
    rename_i gy ga gb;split at e
    .
     rename_i hm;split at e
     .
      rename_i ll hF;cases e;have hl:c.sc.names.lookup y=some .local:=by have:=h3.2.1;unfold G9 at this;simp only[eC]at this;exact eq_of_beq this.1.1
      have bY:d8 c y=true:=by unfold d8;rw[hl]
      obtain⟨m,rfl⟩:∃n:Nat,m=n:=⟨m.toNat,by lia⟩
      rw[pE]at hF;obtain⟨dm,cm⟩:=bq h1.2.2;obtain⟨dt,Yx⟩:=bq h2.2.2;obtain⟨dy,cy⟩:=bq h3.2.2;obtain⟨da,ca⟩:=bq h4.1.2.2;obtain⟨db,cb⟩:=bq h5.1.2.2;have ny:=ct.nm h3.1 bY;exact xX (tR ct) hK h7.1 (by rw[ct.N];exact eH h7.2.2.1) (fF ct h7.2.1) ct.calm (λbk=>(ct.blk h7.2.2.2.1 bk).nm (by rw[ct.N];exact h7.2.2.2.2.1) h7.2.2.2.2.2) (ct.ki _ h8.2) (ct.md.bn _ h8.1) (by rw[ct.N];exact h1.1) (ct.vis h1.2.1) dm cm gm ⋯ ny.nd ny.ix (ct.Vs _ hl) dy cy gy (by rw[ku ct gY bY,h3.2.1])
       (ct.nm h4.1.1 h4.2) (ct.vis h4.1.2.1) da ca (ct.nm h5.1.1 h5.2) (ct.vis h5.1.2.1) db cb (by rw[ct.N];exact h2.1) (ct.vis h2.2.1) dt Yx gt ga gb h6.1 h6.2.1 h6.2.2 h9 h10 hF
     . cases e
    . cases e
   . cases e
  . cases e
 |@mk y v fx ic fi ir l ls e0 es ss st scope N' kb j qH op rhs ret b py lp pos fp vp cp tp ip GX cmp h1 h2 h3 h4 h5 h6 h7 h8 h9 h10 h11=>
  unfold aH at e;dsimp only at e;split at e
  .
   rename_i hg;split at e
   .
    rename_i ds gx e1;split at e
    .
     rename_i r2 g2 e2;split at e
     .
      rename_i d2 p2;split at e
      .
       rename_i cc e3;obtain⟨ds',hr,⟨q,cc0,mk⟩,hm,he⟩:=hS.g (fp:=fp) (vp:=vp) (cp:=cp) ct hK h6 h8 e1;cases hr;obtain⟨dy,cdy⟩:=bq h4;have hN:X.N[ic]?=some y:=by rw[ct.N];exact h1
       have vy:=ct.vis h3;have Vw:=ct.nm h1 h2;have Ox:∃t,PE X (.ListComp (.Call (.Name fx fp) [.Name v vp] [] cp) [⟨.Name v tp,.Name y ip,[],0⟩] scope GX) t/\∀σ H M0 H0 Q,LL X z g ji ic M0 H0 (l::ls) σ H->Kn z g σ M0 H0 (.new ds) Q->t σ H Q:=by refine vA h8.lt (by rw[ct.N];exact eH h8.nm) (fF ct h8.bl) ct.calm hN vy dy cdy (λbk=>(ct.blk h8.nd bk).nm (by rw[ct.N];exact h8.ix) h8.st) (by simp only[l6];lia) he
       have JX:=bF (hS.e ct hK h9 e2);cases h11 with
       |ite hs=>
        rename_i s1 x1 ipos;rw[gN ⋯]at e;refine mQ hK mk Vw.nd hN Vw.lc Vw.fn vy dy cdy hg h5 hm h7 (Gy Ox JX p2 (jC hK ct.room e3) h10 ?_);cases cc with
        |true=>rw[fN rfl]at e;exact hS.b ct gY hK (.cons hs .nil) e
        |false=>rw[gN ⋯]at e;cases e;exact EY
       |ret=>rw[fN rfl]at e;cases e;exact mQ hK mk Vw.nd hN Vw.lc Vw.fn vy dy cdy hg h5 hm h7 (Ck Ox JX p2 (jC hK ct.room e3) h10)
      . cases e
     . cases e
    . cases e
   . cases e
  . cases e
theorem pU(hS:jj P rn)(ct:bh P k X c)(gY:c.df=true)(hK:z.K=X.K):∀{jP:List Stmt}{xs:List Sm}{g g':G}{f:Fl},wH P c jP xs->fE rn z.bor k xs g=some (f,g')->dY X z jP g f g'
 |_,_,_,_,_,.nil,h=>by cases h;exact EY
 |_,_,_,_,f,.grp h1 h2,h=>by
  unfold fE at h;split at h
  . rename_i g1 e1;exact (yt hS ct gY hK h1 e1).bk (pU hS ct gY hK h2 h)
  . rename_i hn e1;cases h;exact (yt hS ct gY hK h1 e1).end λe=>hn e
  . cases h
 |_,_,_,_,f,.cons h1 h2,h=>by
  unfold fE at h;split at h
  . rename_i g1 e1;exact Ke (pS hS ct gY hK h1 e1) (pU hS ct gY hK h2 h)
  .
   rename_i hn e1;cases h;have q:=pS hS ct gY hK h1 e1;cases f with
   |nx=>exact absurd rfl hn
   |rt r=>exact Q7 q
   |bk=>exact Q8 q
   |ct=>exact Q9 q
  . cases h
end
theorem Mv{P:Pg}{k:Nat}{prog:Program}{w:World}{K:Frag}{mg:Str->Option Value}{base:Heap}{N ps:List Str}{qual:Str}{scope:Scope}{f:Addr}{bD:Value}{A:Around}{outer:List Env}{s:Shared}{H:Hp}{E:XK}
  (S:bS N ps scope) (md:tD P K mg) (bE:PySem.W.codeIn K bD qual=true) (hr:cD k (A.deeper (envOfC qual scope s⁻¹ f bD))):Mp P k (fL (Ds prog w) prog w K mg base N qual scope f bD A outer s H E) ⟨N,scope,true,qual⟩:=by
 refine⟨⟨rfl,S.nd,λx e=>e,λx e=>e,λx e=>e,λ_ x e=>e,λx _=>rfl,λ_=>?_,rfl,rfl,md,hr,λe h=>⟨by have e:qual = "law" :=e;subst e;rfl,md.lam h _ (by have e:qual = "law" :=e;exact e▸bE)⟩⟩,rfl,PassesOwn.leaving⟩
 show (if scope.kind.isAnnotationScope then ScopeKind.function else scope.kind)=.function
 rw[S.kind];rfl
section
theorem pW(hS:jj P rn)(hX:lN P rn)(cx:Mp P k X c)(hK:z.K=X.K)(hC:jq P X.mg ci C):∀{es:List Expr}{xs:List Ex}{g g':G},Dw P c es xs->xArgs rn z.bor k xs g=some (ci,g')->Xh X z es g C g'
 |_,_,_,_,.nil,h=>by cases h
 |_,_,_,_,.cons h1 h2,h=>by
  unfold xArgs at h;split at h
  . rename_i e1;cases h;exact KR (hX.x cx hK hC h1 e1) (h1.star _)
  .
   split at h
   . rename_i r g1 e1;exact KS (hS.e (X:=X.mh) cx.ct hK h1 e1).lift (pW hS hX cx hK hC h2 h) (h1.star _)
   . cases h
theorem HD(hS:jj P rn)(hX:lN P rn){fns:List Fx}(hF:gj P fns)(cx:Mp P k X c)(hK:z.K=X.K)(hC:jq P X.mg ci C){e:Expr}{x:Ex}{g g':G}(hc:Cm P c e x)(h:vJ rn z.bor k fns x g=some (ci,g')):FG X z e g C g':=by
 have ct:=cx.ct;cases hc.out with
 |@call x f fi e es xs p pos h1 h2 h3 h4=>
  subst h2;have bY:starEach (e::es) X.env=(false,eval e X.env)::starEach es X.env:=by cases h4 with |cons hh _=>exact hh.star _
  have gQ:(backTo pos (starEach es X.env)).any (·.1)=false:=by cases h4 with |cons _ hh=>exact hh.plain
  obtain⟨fa,fd,hm,Vx,Tv,hB,jt⟩:=ct.md.fn _ fi h1;unfold vJ at h;dsimp only at h;split at h
  .
   rename_i r e1;cases h;cases k with
   |zero=>
    have F:iZ X.prog X.w X.K X.mg X.base uB (0+1) fa fd fi.ps (Km X.K fi.N fi.ps.length λ_ _ _ _=>False):=zm Vx Tv λ_ _ _ _ _ _ _ _ _ _ _ _ _ h=>h.elim
    obtain⟨t,q,kk⟩:=pW hS hX cx hK hC h4 e1;refine⟨_,?_,λσ As M H Q s ac=>kk σ As M H (λ_ _=>False) s ac⟩
    intro ah s σ H Q I ht;refine tJ (fB I (ct.ki _ h3) hm ?_ jt);exact AM (h₀:=X.base) I.ok.mod.Dn Vx.kp (bL (q pos ah s σ H _ I ht) λus s1 ⟨_,_,_,_,h⟩=>h.elim) bY gQ
   |succ k'=>
    have F:iZ X.prog X.w X.K X.mg X.base uB (k'+1) fa fd fi.ps (Km X.K fi.N fi.ps.length λ_ _ _ _=>False):=zm Vx Tv λ_ _ _ _ _ _ _ _ _ _ _ _ _ h=>h.elim
    exact FN F (pW hS hX cx hK hC h4 e1) ct.room (ct.ki _ h3) hm Vx.kp hB jt bY gQ
  .
   cases uA:fns[f]? with
   |none=>rw[uA]at h;cases h
   |some fx=>
    rw[uA]at h;cases k with
    |zero=>cases h
    |succ k'=>
     dsimp only at h;split at h
     .
      rename_i rs g1 e1;have TL:=hF _ _ _ h1 uA;have F:iZ X.prog X.w X.K X.mg X.base (Ds X.prog X.w) (k'+1) fa fd fi.ps (SpX X.K fi.N fi.ps.length λbor g C g'=>∃ci,jq P X.mg ci C/\rn.xb bor k' fx.body g=some (ci,g')):=by
       refine Rx Vx Tv λbD A outer s H E bE hr z' g C g' Vk ⟨ci,hci,hrun⟩=>?_
       exact hX.b (Mv Tv ct.md bE hr) rfl Vk hci TL.body hrun
      unfold vI at h;split at h
      .
       rename_i hl;split at h
       . cases h
       .
        rename_i gs e2;split at h
        .
         rename_i ci' gc e3;split at h
         .
          rename_i gO e4;cases h;have ha:=kr hS (X:=X.mh) ct hK h4 e1;have ha':cO X z (e::es) g rs g1:=by
           obtain⟨t,q,kk⟩:=ha;refine⟨t,λpos ah s σ H Q I hw=>?_,kk⟩
           exact l5 (q pos ah s σ H Q (I.wish _) hw) (λ_ _ ⟨v,H',I',r,q⟩=>⟨v,H',I'.cM,r,q⟩) λ_ _ z=>False.elim z
          exact K3 F hK cx.ex ct.room (ct.ki _ h3) hm Vx.kp hB ha' (by rw[hl.1,TL.np]) e2 hl.2 ⟨ci,hC,by rw[<- TL.n];exact e3⟩ e4 jt bY gQ
         . cases h
        . cases h
      . cases h
     . cases h
 |_=>cases h
theorem CN(hX:lN P rn)(cx:Mp P k X c)(hK:z.K=X.K)(hC:jq P X.mg ci C){e:Expr}{x:Ex}{g g':G}(hc:Cm P c e x)(h:sZ rn z.bor k x g=some (ci,g')):Vf X z e g C g':=by
 cases hc.out with
 |not h1=>exact KQ (hX.t cx hK hC h1 h)
 |call h1 h2 h3 h4=>exact Rt (hX.x cx hK hC hc h) λ_=>rfl
 |_=>cases h
theorem fW.lift{st:Stmt}{g g':G}{f:Fl}(h:fW X.mh z st g f g'):fW X z st g f g':=by
 obtain⟨t,q,k⟩:=h;refine⟨t,λah s σ H D I hw=>?_,k⟩
 exact l5 (q ah s σ H D (I.wish _) hw) (λ_ _ q=>q.cM) λ_ _ z=>False.elim z
theorem CP(hS:jj P rn)(hX:lN P rn)(cx:Mp P k X c)(gY:c.df=true)(hK:z.K=X.K)(hC:jq P X.mg ci C){s:Stmt}{x:Sm}{g g':G}(hc:Dy P c s x)(h:pG rn z.bor k x g=some (ci,g')):Rr X z s g C g':=by
 have ct:=cx.ct;cases hc.out with
 |ret h1=>exact Ru (hX.x cx hK hC h1 h)
 |expr h1 h2=>exact KY (hX.x cx hK hC h1 h) (gq h1 h2 _ _ _)
 |ite h1 h2 h3=>
  unfold pG at h;dsimp only at h;split at h
  . rename_i e1;cases h;exact Rv (hX.t cx hK hC h1 e1)
  .
   split at h
   . rename_i g1 e1;exact FH (v:=true) (hS.t (X:=X.mh) ct hK h1 e1).lift (by rw[fN rfl];exact hX.b cx gY hK hC h2 h)
   . rename_i g1 e1;exact FH (v:=false) (hS.t (X:=X.mh) ct hK h1 e1).lift (by rw[gN lL];exact hX.b cx gY hK hC h3 h)
   . cases h
 |@raise x ci' m xm np aR pos h1 h2 h3=>
  unfold pG at h;dsimp only at h;split at h
  .
   rename_i d g1 e1;cases h;obtain⟨y,q1,q2⟩:=hC;rw[h1]at q1;cases q1;obtain⟨jt,C',q3,q4⟩:=ct.md.cls x (kS h1);have e:C'=C:=by have:=q3.symm.trans q2;cases this;rfl
   subst e;exact FJ ct.calm cx.ex q4 (ct.ki _ h2) q2 jt (cF (aN hS (X:=X.mh) ct hK h3 e1).lift eL (h3.star _)) (h3.star _)
  . cases h
 |_=>cases h
theorem lO(hS:jj P rn)(hX:lN P rn)(cx:Mp P k X c)(gY:c.df=true)(hK:z.K=X.K)(hC:jq P X.mg ci C):∀{jP:List Stmt}{xs:List Sm}{g g':G},wH P c jP xs->jB rn z.bor k xs g=some (ci,g')->KN X z jP g C g'
 |_,_,_,_,.nil,h=>by cases h
 |_,_,_,_,.grp h1 h2,h=>by
  unfold jB at h;split at h
  . rename_i e1;cases h1 <;> cases e1
  .
   split at h
   . rename_i g1 e1;exact ((yt (X:=X.mh) hS cx.ct gY hK h1 e1).lift).ra (lO hS hX cx gY hK hC h2 h)
   . cases h
 |_,_,_,_,.cons h1 h2,h=>by
  unfold jB at h;split at h
  . rename_i e1;cases h;exact KZ (CP hS hX cx gY hK hC h1 e1)
  .
   split at h
   . rename_i g1 e1;exact K1 (pS (X:=X.mh) hS cx.ct gY hK h1 e1).lift (lO hS hX cx gY hK hC h2 h)
   . cases h
end
theorem vU{P:Pg}{fns:List Fx}(hF:gj P fns):∀n,jj P (run fns n)/\lN P (run fns n)
 | 0=>⟨⟨λ_ _ _ h=>(by cases h),λ_ _ _ h=>(by cases h),λ_ _ _ _ h=>(by cases h),λ_ _ _ _ h=>(by cases h)⟩,⟨λ_ _ _ _ h=>(by cases h),λ_ _ _ _ h=>(by cases h),λ_ _ _ _ _ h=>(by cases h)⟩⟩
 |n+1=>
  let ⟨a,b⟩:=vU hF n
  ⟨⟨λct hK hc h=>Hy a b hF ct hK hc h,λct hK hc h=>Hz a ct hK hc h,λct gY hK hc h=>pU a ct gY hK hc h,λct hK hl B h=>Hx a b hF ct hK hl B h⟩,
  ⟨λcx hK hC hc h=>HD a b hF cx hK hC hc h,λcx hK hC hc h=>CN b cx hK hC hc h,λcx gY hK hC hc h=>lO a b cx gY hK hC hc h⟩⟩
theorem Mw{P:Pg}{fns:List Fx}(hF:gj P fns)(n:Nat):jj P (run fns n):=(vU hF n).1
def cA(K:Frag)(mg:Str->Option Value)(fi:Fi):Prop:=
 ∃f fd,mg fi.name=some (.ref f)/\Jk K fi.name fi.qual fi.st f fd/\bS fi.N fi.ps (aE fi.st)/\(∀us:List Value,us.length=fi.ps.length->bindArgs fd ⟨us,[]⟩=pure (fi.ps.zip us))/\(fi.name==("__debug__":Str))=false
def TQ(K:Frag)(mg:Str->Option Value)(p:Str×D):Prop:=(p.1==("__debug__":Str))=false/\∃v u,mg p.1=some u/\RelV v u/\∀M H,Rep K M H p.2 v
inductive All{α:Type}(p:α->Prop):List α->Prop
 |nil:All p []
 |cons {a:α}{l:List α}:p a->All p l->All p (a::l)
theorem All.mem{α:Type}{p:α->Prop}:∀{l:List α},All p l->∀a∈l,p a
 |_,.nil,_,h=>nomatch h
 |_,.cons h t,a,hm=>(d6.mp hm).elim (λe=>e▸h) (All.mem t a)
structure TV(P:Pg)(K:Frag)(mg:Str->Option Value):Prop where
 lam:P.lam=true->∀bD,PySem.W.codeIn K bD "law"=true->G8 K mg bD
 g6:∀(i:Nat) (C:Addr),P.g6[i]?=some C->∃x,P.cls[i]?=some x/\mg x=some (.ref C)/\fM K C/\Jl K C
 kt:P.lam=true->(P.kt==("__debug__":Str))=false/\∃D,mg P.kt=some (.ref D)/\fM K D/\∀C∈P.g6,vn K C D=true
 ups:∀(x:Str) (l:List (Addr×Bool)),(x,l)∈P.ups->(x==("__debug__":Str))=false/\∃cv,((mg x=some cv/\∃D,cv=.ref D)\/(x∈P.bn/\x≠ "__name__" /\bootBuiltins x=some cv/\∃n,cv=.type n))/\PySem.W.kitOne K (.type "NoneType") cv=some false/\∀C b,l.lookup C=some b->PySem.W.kitOne K (.ref C) cv=some b
theorem YB{P:Pg}{K:Frag}{mg:Str->Option Value}(h1:All (cA K mg) P.fn)(h2:All (TQ K mg) P.ct)(h3:All (λx=>mg x=none) P.bn)(h4:All (λx=>(x==("__debug__":Str))=false/\∃C,mg x=some (.ref C)/\fM K C) P.cls)(h5:TV P K mg):tD P K mg:=
 ⟨λi fi e=>let ⟨f,fd,q1,q2,q3,q4,q5⟩:=h1.mem fi (kS e);⟨f,fd,q1,q2,q3,.all q4,q5⟩,λx d h=>h2.mem (x,d) h,λx h=>h3.mem x h,λx h=>h4.mem x h,h5.lam,h5.g6,h5.kt,h5.ups⟩
def BdOk(fi:Fi):Prop:=∀(kV doc pm:Value) (an:Option Addr) (bD ct:Value) (us:List Value),us.length=fi.ps.length->bindArgs (PySem.W.fnOf fi.name fi.qual (iP fi.st) (bA fi.st) (aE fi.st) .none kV doc pm an bD ct) ⟨us,[]⟩=pure (fi.ps.zip us)
section
variable{K:Frag}
theorem YC{fi:Fi}{oc:Value}{od an:Option Addr}{osl:Array (Option Value)}{kV doc pm bD ct:Value}(X:K.In h)(G:h.Ns mainGlobals mg)(a:PySem.W.nsIn K mainGlobals fi.name=some (some (.ref f)))
  (l:K.lookup f=some ⟨oc,od,.func (PySem.W.fnOf fi.name fi.qual (iP fi.st) (bA fi.st) (aE fi.st) .none kV doc pm an bD ct),osl⟩) (c:PySem.W.codeIn K bD fi.qual=true) (k:PySem.W.keepIn K (.ref f)=true)
  (sc:bS fi.N fi.ps (aE fi.st)) (hb:BdOk fi)
  (hd:(fi.name==("__debug__":Str))=false):cA K mg fi:=
 let F:=Qi (x:=fi.name) (qual:=fi.qual) (st:=fi.st) l c k
 ⟨f,_,B9 X G a,F,sc,hb kV doc pm an bD ct,hd⟩
theorem TX{x:Str}{i:Int}{t:Tok}(X:K.In h)(G:h.Ns mainGlobals mg)(a:PySem.W.nsIn K mainGlobals x=some (some (.int i t)))(hd:(x==("__debug__":Str))=false):TQ K mg (x,.int i):=
 ⟨hd,.int i,.int i t,B9 X G a,⟨t,rfl⟩,λ_ _=>.int i⟩
theorem YD{x:Str}{C:Addr}(X:K.In h)(G:h.Ns mainGlobals mg)(a:PySem.W.nsIn K mainGlobals x=some (some (.ref C)))(q:fM K C)(hd:(x==("__debug__":Str))=false):(x==("__debug__":Str))=false/\∃C,mg x=some (.ref C)/\fM K C:=
 ⟨hd,C,B9 X G a,q⟩
theorem TY{P:Pg}{fns:List Fx}{prog:Program}{w:World}{base:Heap}(hF:gj P fns)(md:tD P K mg){i:Nat}{fi:Fi}{fx:Fx}{x:Str}{fd:FuncData}{n k:Nat}(Yw:P.fn[i]?=some fi)(uA:fns[i]?=some fx)(hp:fi.ps=[x])(F:Jk K fi.name fi.qual fi.st f fd)(sc:bS fi.N fi.ps (aE fi.st)) :
  iZ prog w K mg base uB (k+1) f fd [x] (Km K fi.N 1 λbor g r g'=>(run fns n).b bor k fx.body g=some (.rt r,g')):=by
 have:=zm (P:=prog) (w:=w) (mg:=mg) (base:=base) (k:=k) (N:=fi.N) (ps:=fi.ps) (run:=λbor g r g'=>(run fns n).b bor k fx.body g=some (.rt r,g')) F sc λbD A outer s H E bE hr z g r g' hK hrun=>
  ⟨_,(Mw hF n).b (pQ sc md bE hr) rfl hK (hF i fi fx Yw uA).body hrun,.inl rfl⟩
 rw[hp]at this;exact this
theorem HF{P:Pg}{fns:List Fx}{prog:Program}{w:World}(hF:gj P fns)(md:tD P K mg){i:Nat}{fi:Fi}{fx:Fx}{x:Str}{n k:Nat}(Yw:P.fn[i]?=some fi)(uA:fns[i]?=some fx)(hp:fi.ps=[x])(h:cA K mg fi)(hm:mg fi.name=some (.ref f)) :
  ∃fd:FuncData,(∀(s:Shared) (u:Value),BindsTo s fd ⟨[u],[]⟩ [(x,u)])/\∀base:Heap,K.In base->base.Ns mainGlobals mg->iZ prog w K mg base uB (k+1) f fd [x] (Km K fi.N 1 λbor g r g'=>(run fns n).b bor k fx.body g=some (.rt r,g')):=by
 obtain⟨f',fd,q1,q2,q3,q4,q5⟩:=h;rw[hm]at q1;cases q1;refine⟨fd,λs u=>.of_eq ?_,λbase _ _=>TY hF md Yw uA hp q2 q3⟩
 have:=q4 [u] (by rw[hp];rfl)
 rw[hp]at this;exact this
theorem T3{N:List Str}{run:List Nat->G->R->G->Prop}(hev:∀ns:List Int,ns.length<=63->∃g',run [] (dz N.length [.dat (.fix (ns.map .int))]) (.dat (.bl true)) g')(K:Frag)(H:Hp)(a:Addr)(ns:List Int)(hl:ns.length<=63)(hO:zC ((cE K).map (·.1)) H)(hS:bZ K H a (ns.map V.int)) :
  Km K N 1 run [.ref a] H (λv _=>v=.bl true) λ_ _ _=>False:=by
 obtain⟨g',hg⟩:=hev ns hl;have fx:mC K ((cE K).map (·.1)) H a (ns.map V.int):=by
  rcases hS with h |h
  .
   rcases hO a with ⟨_,z⟩ |⟨na,z⟩
   . rcases h with h |⟨o,h⟩ <;> (rw[z]at h;cases h)
   .
    refine .inl ⟨na,?_⟩;rcases h with h |h
    .
     rcases z with z |⟨o,xs,z⟩
     . rw[z]at h;cases h
     . rw[z]at h;cases h
    . exact h
  . exact .inr (.inr h)
 have rr:∀ns:List Int,aI K ((cE K).map (·.1)) H (ns.map D.int) (ns.map V.int):=λns=>by
  induction ns with
  |nil=>exact .nil
  |cons n ns ih=>exact .cons (.int n) ih
 have tb:∀p∈cE K,H p.1=some (.kN #[]):=λp hp=>by
  rcases hO p.1 with ⟨_,z⟩ |⟨z,_⟩
  . exact z
  . exact absurd (i7.mpr ⟨p,hp,rfl⟩) z
 refine⟨rfl,⟨K,H,(cE K).map (·.1),[],cE K⟩,dz N.length [.dat (.fix (ns.map .int))],g',[],(cE K).map (·.1),.dat (.bl true),rfl,?_,hg,λv σ' aC M' H' s' st R=>fD R⟩
 refine⟨?_,qS,(λa ha=>nomatch ha),λi b l e1 e2=>?_,(λm hm=>.inr hm),(λb o e _ _=>e),(λm hm=>hm),(λm hm=>?_),(λb hb=>nomatch hb),(λp hp=>nomatch hp),(λp hp=>⟨#[],tb p hp,trivial,λpos cv e=>nomatch e⟩),(λp hp=>i7.mpr ⟨p,hp,rfl⟩),rfl⟩
 . exact Slots.append (A1:=[]) (.dat (.fix fx (rr ns)) .nil) (Slots.Zu _)
 .
  exfalso;unfold dz at e1;cases i with
  |zero=>simp at e1
  |succ i=>rw[eA ⋯]at e1;have:=kS e1;rw[vS]at this;exact absurd this.2 ⋯
 . obtain⟨p,hp,rfl⟩:=i7.mp hm;intro z;have z:H p.1=none:=z;rw[tb p hp]at z;cases z
end
noncomputable abbrev Fi.ct(fi:Fi):Ct:=⟨fi.N,aE fi.st,true,fi.qual⟩
def zW(P:Pg)(fi:Fi)(fx:Fx):List Stmt:=qM (Tp P 99 (Ou P 99 20 fi.ct) fi.ct) (Ou P 99 20 fi.ct) fx.body (bA fi.st)
def fxB(P:Pg)(fi:Fi)(fx:Fx):Bool:=decide (fx.np=fi.ps.length)&&(decide (fx.n=fi.N.length)&&Jv (Tq P 99 (Ov P 99 20 fi.ct) fi.ct) (Ov P 99 20 fi.ct) fx.body (bA fi.st))
theorem T4{P:Pg}{fi:Fi}{fx:Fx}(e:zW P fi fx=bA fi.st)(h:fxB P fi fx=true):Mq P fi fx:=⟨dec (ak h).1,dec (ak (ak h).2).1,Eq.mp (congrArg (λl=>wH P fi.ct l fx.body) e) (wH.mk (ak (ak h).2).2)⟩
def HJ(P:Pg):List Fi->List Fx->Bool
 |fi::l,fx::r=>fxB P fi fx&&HJ P l r
 |_,_=>true
theorem Mx{P:Pg}{l:List Fi}{r:List Fx}(e:List.zipWith (zW P) l r=l.map λfi=>bA fi.st)(h:HJ P l r=true)(f:Nat)(fi:Fi)(fx:Fx)(h1:l[f]?=some fi)(h2:r[f]?=some fx):Mq P fi fx:=by
 induction l generalizing r f with
 |nil=>cases h1
 |cons a l ih=>cases r with
  |nil=>cases h2
  |cons b r=>
   have h:(fxB P a b&&HJ P l r)=true:=h;cases f with
   |zero=>cases h1;cases h2;exact T4 (List.cons.inj e).1 (ak h).1
   |succ f=>exact ih (List.cons.inj e).2 (ak h).2 f h1 h2
theorem T5{P:Pg}{fns:List Fx}(h:HJ P P.fn fns=true)(e:List.zipWith (zW P) P.fn fns=P.fn.map λfi=>bA fi.st):gj P fns:=λf fi fx h1 h2=>Mx e h f fi fx h1 h2
theorem YF{us:List Value}(h:us.length=1):∃a,us=[a]:=by
 cases us with
 |nil=>cases h
 |cons a us=>cases us with
  |nil=>exact⟨a,rfl⟩
  |cons _ _=>cases h
theorem YG{us:List Value}(h:us.length=2):∃a b,us=[a,b]:=by
 cases us with
 |nil=>cases h
 |cons a us=>obtain⟨b,rfl⟩:=YF (B1 h);exact⟨a,b,rfl⟩
theorem len3{us:List Value}(h:us.length=3):∃a b c,us=[a,b,c]:=by
 cases us with
 |nil=>cases h
 |cons a us=>obtain⟨b,c,rfl⟩:=YG (B1 h);exact⟨a,b,c,rfl⟩
def cU(st:Stmt):Fi:=match st with
 |.FunctionDef name args _ _ _ _ scope _ _ _=>⟨name,name,st,(args.args.map (·.arg))++scope.names.filterMap (λy=>if (y.2==.local||y.2==.cell)&&!(args.args.map (·.arg)).contains y.1 then some y.1 else none),args.args.map (·.arg)⟩
 |st=>⟨"", "",st,[],[]⟩
section
theorem vV(ds:List D):∀i,vars i (ds.map R.dat)=[]:=by
 induction ds with
 |nil=>intro i;rfl
 |cons d ds ih=>intro i;exact ih (i+1)
theorem vW(ds:List D):cu (ds.map R.dat) g1=some (ds.map .dat):=by
 induction ds with
 |nil=>rfl
 |cons d ds ih=>
  show (match cu (ds.map R.dat) g1 with |some gs=>some (Slot.dat d::gs) |none=>none)=_
  rw[ih];rfl
noncomputable def Vy:List D->G
 | []=>[]
 |d::l=>.dat d::Vy l
theorem zX(ds:List D):Vy ds=ds.map .dat:=by
 induction ds with
 |nil=>rfl
 |cons d ds ih=>rw[Vy,ih];rfl
def cB(rn:Rn)(k:Nat)(fx:Fx)(ds:List D):Option R:=match rn.b [] k fx.body (dz fx.n (Vy ds))with
 |some (.rt r,gc)=>dj [] gc r
 |some (.nx,_)=>some (.dat .non)
 |_=>none
theorem lP{fx:Fx}{ds:List D}(hl:ds.length=fx.np):aU rn fx k (ds.map .dat) g1=(cB rn k fx ds).map λr=>(r,g1):=by
 unfold aU cB;rw[vV,vW,zX];simp only[fR,hl,List.map_nil,qS,and_self,wS];cases rn.b [] k fx.body (dz fx.n (ds.map .dat))with
 |none=>rfl
 |some p=>
  obtain⟨f,gc⟩:=p;cases f with
  |nx=>rfl
  |rt r=>simp only[back];cases dj [] gc r <;> rfl
  |bk=>rfl
  |ct=>rfl
noncomputable def gM(g m:G)(acc:List D):G:=g++(m++[.own acc])
theorem lQ{g m:G}{acc:List D}{i:Nat}(h:i<g.length):(gM g m acc)[i]?=g[i]?:=by unfold gM;rw[dL h]
theorem dG{g m:G}{acc:List D}{i:Nat}(h:i<m.length):(gM g m acc)[g.length+i]?=m[i]?:=by unfold gM;rw[eA ⋯,kA,dL h]
theorem iX{g m:G}{acc:List D}:(gM g m acc)[g.length+m.length]?=some (.own acc):=by unfold gM;rw[eA ⋯,kA,eA (dS _),BA];rfl
theorem jI{g m:G}{acc:List D}{i:Nat}{s:Slot}(h:i<m.length):(gM g m acc).set (g.length+i) s=gM g (m.set i s) acc:=by unfold gM;rw[sR _ _ ⋯,kA,B5 _ _ h]
theorem iJ{g m:G}{acc acc':List D}:(gM g m acc).set (g.length+m.length) (.own acc')=gM g m acc':=by unfold gM;rw[sR _ _ ⋯,kA,sR _ _ (dS _),BA];rfl
theorem tT{g m:G}{acc:List D}:(gM g m acc).take g.length=g:=by unfold gM;simp
theorem HN{kk:Nat}:gC kk g=gM g (List.replicate kk .no) []:=rfl
theorem tU{α:Type}{T:Tg}{last kk:Nat}{c:Option Ex}{e:Ex}(cC:α->D)(f:α->D)(p:α->Bool)(st:α->G->G)(cK:last=g.length+kk)(bY:∀d m,m.length=kk->(st d m).length=kk) :
  ∀(aj:List α) (m:G) (acc:List D),m.length=kk->acc.length+aj.length<=lim->
  (∀d∈aj,∀m acc,m.length=kk->T.set (cC d) (gM g m acc)=some (gM g (st d m) acc))->
  (∀d∈aj,∀m acc,m.length=kk->qo rn bor k c (gM g (st d m) acc)=some (p d,gM g (st d m) acc))->
  (∀d∈aj,p d=true->∀m acc,m.length=kk->eX rn bor k e (gM g (st d m) acc)=some (f d,gM g (st d m) acc))->
  ∃m',m'.length=kk/\x8 rn bor k T last c e (aj.map cC) (gM g m acc)=some (gM g m' (acc++(aj.filter p).map f))
 | [],m,acc,hm,_,_,_,_=>⟨m,hm,by simp[x8]⟩
 |d::aj,m,acc,hm,hl,hT,hi,he=>by
  rw[l6]at hl;have q1:=hT d dA m acc hm;have q2:=hi d dA m acc hm;have hm':=bY d m hm;rw[List.map_cons];unfold x8;rw[q1];dsimp only;rw[q2];cases hp:p d with
  |false=>
   dsimp only;obtain⟨m',w1,w2⟩:=tU cC f p st cK bY aj (st d m) acc hm' ⋯ (λx hx=>hT x (a9 _ hx)) (λx hx=>hi x (a9 _ hx)) (λx hx=>he x (a9 _ hx))
   exact⟨m',w1,by rw[w2,A6,hp];rfl⟩
  |true=>
   have q3:=he d dA hp m acc hm;dsimp only;rw[q3];dsimp only;have q4:(gM g (st d m) acc)[last]?=some (.own acc):=by rw[cK,<- hm'];exact iX
   rw[q4];dsimp only;rw[fN ⋯];have q5:(gM g (st d m) acc).set last (.own (acc++[f d]))=gM g (st d m) (acc++[f d]):=by rw[cK,<- hm'];exact iJ
   rw[q5];obtain⟨m',w1,w2⟩:=tU cC f p st cK bY aj (st d m) (acc++[f d]) hm' (by rw[eR,t8];lia) (λx hx=>hT x (a9 _ hx)) (λx hx=>hi x (a9 _ hx)) (λx hx=>he x (a9 _ hx))
   refine⟨m',w1,?_⟩;rw[w2,A6,hp];simp
theorem rM{α:Type}{kk nn:Nat}{T:Tg}{it:Ex}{c:Option Ex}{e:Ex}(aj:List α)(cC:α->D)(f:α->D)(p:α->Bool)(st:α->G->G)(hw:eE rn bor k T.gH it g=some (aj.map cC,g1))(hn:nn=g1.length)(hb:(T.ix.any λi=>decide (i∈bor))=false)(hl:aj.length<=lim)(bY:∀d m,m.length=kk->(st d m).length=kk)
  (hT:∀d∈aj,∀m acc,m.length=kk->T.set (cC d) (gM g1 m acc)=some (gM g1 (st d m) acc))
  (hi:∀d∈aj,∀m acc,m.length=kk->qo rn bor k c (gM g1 (st d m) acc)=some (p d,gM g1 (st d m) acc))
  (he:∀d∈aj,p d=true->∀m acc,m.length=kk->eX rn bor k e (gM g1 (st d m) acc)=some (f d,gM g1 (st d m) acc)) :
  fY rn bor k nn kk T it c e g=some ((aj.filter p).map f,g1):=by
 subst hn;obtain⟨m',w1,w2⟩:=tU (rn:=rn) (bor:=bor) (k:=k) (g:=g1) (last:=g1.length+kk) cC f p st rfl bY aj (List.replicate kk .no) [] ⋯ (by simpa using hl) hT hi he
 unfold fY;rw[hw];dsimp only;rw[fN ⟨rfl,hb⟩,HN,w2];dsimp only;have:(gM g1 m' ([]++(aj.filter p).map f))[g1.length+kk]?=some (.own ([]++(aj.filter p).map f)):=by rw[<- w1];exact iX
 rw[this];dsimp only;rw[tT,AD]
theorem tV{j kk:Nat}{d:D}{m:G}{acc:List D}(hj:g.length<=j)(hk:j - g.length<m.length):(Tg.nm j).set d (gM g m acc)=some (gM g (m.set (j - g.length) (.dat d)) acc):=by
 show some ((gM g m acc).set j (.dat d))=_;have:=jI (g:=g) (acc:=acc) (s:=.dat d) hk;rw[show g.length+(j - g.length)=j by lia]at this
 rw[this]
def yu(g:G)(j:Nat)(d:D)(G':G):Prop:=(∀i,i<g.length->G'[i]?=g[i]?)/\G'[j]?=some (.dat d)
theorem rO{α:Type}{kk nn j:Nat}{it:Ex}{c:Option Ex}{e:Ex}(aj:List α)(cC:α->D)(p:α->Bool)(f:α->D)(hw:eE rn bor k false it g=some (aj.map cC,g1))(hn:nn=g1.length)(hj1:g1.length<=j)(hj2:j<g1.length+kk)(hb:j∉bor)(hl:aj.length<=lim)
  (hi:∀a∈aj,∀G',yu g1 j (cC a) G'->qo rn bor k c G'=some (p a,G')) (he:∀a∈aj,p a=true->∀G',yu g1 j (cC a) G'->eX rn bor k e G'=some (f a,G')) :
  fY rn bor k nn kk (.nm j) it c e g=some ((aj.filter p).map f,g1):=by
 have sees:∀(a:α) (m:G) (acc:List D),m.length=kk->yu g1 j (cC a) (gM g1 (m.set (j - g1.length) (.dat (cC a))) acc):=λa m acc hm=>by
  refine⟨λi hi=>lQ hi,?_⟩
  have:=dG (g:=g1) (m:=m.set (j - g1.length) (.dat (cC a))) (acc:=acc) (i:=j - g1.length) (by simp;lia)
  rw[show g1.length+(j - g1.length)=j by lia]at this
  rw[this,fI ⋯]
 refine rM (T:=.nm j) aj cC f p (λa m=>m.set (j - g1.length) (.dat (cC a))) hw hn (by simp[Tg.ix,hb]) hl (λd m hm=>by simpa using hm) (λa _ m acc hm=>tV (kk:=kk) hj1 ⋯) (λa ha m acc hm=>hi a ha _ (sees a m acc hm)) λa ha hp m acc hm=>he a ha hp _ (sees a m acc hm)
theorem filter_all{α:Type}(l:List α):l.filter (λ_=>true)=l:=List.filter_eq_self.mpr λ_ _=>rfl
theorem zY{α:Type}{kk nn j:Nat}{it:Ex}{e:Ex}(aj:List α)(cC:α->D)(f:α->D)(hw:eE rn bor k false it g=some (aj.map cC,g1))(hn:nn=g1.length)(hj1:g1.length<=j)(hj2:j<g1.length+kk)(hb:j∉bor)(hl:aj.length<=lim)
  (he:∀a∈aj,∀G',yu g1 j (cC a) G'->eX rn bor k e G'=some (f a,G')):fY rn bor k nn kk (.nm j) it none e g=some (aj.map f,g1):=by
 have:=rO (c:=none) aj cC (λ_=>true) f hw hn hj1 hj2 hb hl (λ_ _ _ _=>rfl) λa ha _ G' hG=>he a ha G' hG
 rw[filter_all]at this;exact this
def kB(g:G)(j1 j2:Nat)(d1 d2:D)(G':G):Prop:=(∀i,i<g.length->G'[i]?=g[i]?)/\G'[j1]?=some (.dat d1)/\G'[j2]?=some (.dat d2)
theorem cz{α:Type}{kk nn j1 j2:Nat}{it:Ex}{c:Option Ex}{e:Ex}(aj:List α)(bI cH:α->D)(p:α->Bool)(f:α->D)(hw:eE rn bor k true it g=some (aj.map λa=>.tup [bI a,cH a],g1))(hn:nn=g1.length)(hj1:g1.length<=j1)(YH:j1<g1.length+kk)(hj2:g1.length<=j2)(YJ:j2<g1.length+kk)(fz:j1≠j2)(hb1:j1∉bor)(hb2:j2∉bor)(hl:aj.length<=lim)
  (hi:∀a∈aj,∀G',kB g1 j1 j2 (bI a) (cH a) G'->qo rn bor k c G'=some (p a,G')) (he:∀a∈aj,p a=true->∀G',kB g1 j1 j2 (bI a) (cH a) G'->eX rn bor k e G'=some (f a,G')) :
  fY rn bor k nn kk (.tp [j1,j2]) it c e g=some ((aj.filter p).map f,g1):=by
 have sees:∀(a:α) (m:G) (acc:List D),m.length=kk->kB g1 j1 j2 (bI a) (cH a) (gM g1 ((m.set (j1 - g1.length) (.dat (bI a))).set (j2 - g1.length) (.dat (cH a))) acc):=λa m acc hm=>by
  refine⟨λi hi=>lQ hi,?_,?_⟩
  .
   have:=dG (g:=g1) (m:=(m.set (j1 - g1.length) (.dat (bI a))).set (j2 - g1.length) (.dat (cH a))) (acc:=acc) (i:=j1 - g1.length) (by simp;lia)
   rw[show g1.length+(j1 - g1.length)=j1 by lia]at this
   rw[this,eM ⋯,fI ⋯]
  .
   have:=dG (g:=g1) (m:=(m.set (j1 - g1.length) (.dat (bI a))).set (j2 - g1.length) (.dat (cH a))) (acc:=acc) (i:=j2 - g1.length) (by simp;lia)
   rw[show g1.length+(j2 - g1.length)=j2 by lia]at this
   rw[this,fI (by simp;lia)]
 refine rM (T:=.tp [j1,j2]) aj (λa=>.tup [bI a,cH a]) f p (λa m=>(m.set (j1 - g1.length) (.dat (bI a))).set (j2 - g1.length) (.dat (cH a))) hw hn (by simp[Tg.ix,hb1,hb2]) hl (λd m hm=>by simpa using hm) (λa _ m acc hm=>?_) (λa ha m acc hm=>hi a ha _ (sees a m acc hm)) λa ha hp m acc hm=>he a ha hp _ (sees a m acc hm)
 have q1:=jI (g:=g1) (m:=m) (acc:=acc) (i:=j1 - g1.length) (s:=.dat (bI a)) ⋯;have q2:=jI (g:=g1) (m:=m.set (j1 - g1.length) (.dat (bI a))) (acc:=acc) (i:=j2 - g1.length) (s:=.dat (cH a)) (by simp;lia)
 rw[show g1.length+(j1 - g1.length)=j1 by lia]at q1
 rw[show g1.length+(j2 - g1.length)=j2 by lia]at q2
 show some (((gM g1 m acc).set j1 (.dat (bI a))).set j2 (.dat (cH a)))=_;rw[q1,q2]
theorem yw{α:Type}{kk nn j1 j2:Nat}{it:Ex}{e:Ex}(aj:List α)(bI cH:α->D)(f:α->D)(hw:eE rn bor k true it g=some (aj.map λa=>.tup [bI a,cH a],g1))(hn:nn=g1.length)(hj1:g1.length<=j1)(YH:j1<g1.length+kk)(hj2:g1.length<=j2)(YJ:j2<g1.length+kk)(fz:j1≠j2)(hb1:j1∉bor)(hb2:j2∉bor)(hl:aj.length<=lim)
  (he:∀a∈aj,∀G',kB g1 j1 j2 (bI a) (cH a) G'->eX rn bor k e G'=some (f a,G')):fY rn bor k nn kk (.tp [j1,j2]) it none e g=some (aj.map f,g1):=by
 have:=cz (c:=none) aj bI cH (λ_=>true) f hw hn hj1 YH hj2 YJ fz hb1 hb2 hl (λ_ _ _ _=>rfl) λa ha _ G' hG=>he a ha G' hG
 rw[filter_all]at this;exact this
theorem zZ{c:G->Option (Bool×G)}{b:G->Option (Fl×G)}(I:Nat->G->Prop)(step:∀m g,I (m+1) g->∃g1 g2,c g=some (true,g1)/\b g1=some (.nx,g2)/\I m g2)(fin:∀g,I 0 g->c g=some (false,g)) :
  ∀m N g,m<N->I m g->∃g',I 0 g'/\Oj c b N g=some (.nx,g')
 | 0,N+1,g,_,h=>⟨g,h,by unfold Oj;rw[fin g h]⟩
 |m+1,N+1,g,hN,h=>by
  obtain⟨g1,g2,q1,q2,q3⟩:=step m g h;obtain⟨g',w1,w2⟩:=zZ I step fin m N g2 ⋯ q3;exact⟨g',w1,by unfold Oj;rw[q1];dsimp only;rw[q2];exact w2⟩
theorem bT{α:Type}{T:Tg}{b:G->Option (Fl×G)}(cC:α->D)(I:List α->G->Prop)(step:∀a l g,I (a::l) g->∃g1 g2,T.set (cC a) g=some g1/\b g1=some (.nx,g2)/\I l g2):∀l g,I l g->∃g',I [] g'/\jo T b (l.map cC) g=some (.nx,g')
 | [],g,h=>⟨g,h,rfl⟩
 |a::l,g,h=>by
  obtain⟨g1,g2,q1,q2,q3⟩:=step a l g h;obtain⟨g',w1,w2⟩:=bT cC I step l g2 q3;exact⟨g',w1,by rw[List.map_cons];unfold jo;rw[q1];dsimp only;rw[q2];exact w2⟩
end
theorem ints_map(l:List Int):cJ (l.map .int)=some l:=by
 induction l with
 |nil=>rfl
 |cons a l ih=>simp[cJ,ih]
theorem My(l:List Bool):uQ (l.map .bl)=some l:=by
 induction l with
 |nil=>rfl
 |cons a l ih=>simp[uQ,ih]
theorem HQ(l:List (List Int))(h:∀x∈l,x≠[]):iC (l.map λx=>.tup (x.map .int))=some l:=by
 induction l with
 |nil=>rfl
 |cons a l ih=>
  have ha:=h a dA;cases a with
  |nil=>exact absurd rfl ha
  |cons x a=>
   have:=ints_map (x::a);simp only[List.map_cons]at this ⊢
   simp only[iC,this,ih λy hy=>h y (a9 _ hy)]
theorem CQ(a:List Int)(l:List (List Int)):cJ ((a::l).map λ(x:List Int)=>.tup (x.map .int))=none:=rfl
theorem HR(l:List D):pC .len [.tup l]=some (.dat (.int l.length)):=rfl
theorem HS(l:List D):pC .len [.lst l]=some (.dat (.int l.length)):=rfl
theorem pX(l:List D):pC .len [.fix l]=some (.dat (.int l.length)):=rfl
theorem CT(l:List D):pC .list [.tup l]=some (.new l):=rfl
theorem CV(l:List D):pC .list [.lst l]=some (.new l):=rfl
theorem yx(l:List D):pC .tuple [.lst l]=some (.dat (.tup l)):=rfl
theorem yy(l:List D):pC .tuple [.tup l]=some (.dat (.tup l)):=rfl
theorem Mz(i j:Int):pC .max [.int i,.int j]=some (.dat (.int (if j > i then j else i))):=rfl
theorem MF(i j:Int):pC .min [.int i,.int j]=some (.dat (.int (if j<i then j else i))):=rfl
theorem T6(l:List Bool):pC .all [.lst (l.map .bl)]=some (.dat (.bl (l.all id))):=by simp only[pC,R9,My]
theorem mU(l:List Int)(h:l.length<64):pC .sorted [.lst (l.map .int)]=some (.new ((cZ l).map .int)):=by simp only[pC,R9,cW,ints_map,h,wS]
theorem Oz(l:List Int)(h:l.length<64):pC .sorted [.tup (l.map .int)]=some (.new ((cZ l).map .int)):=by simp only[pC,R9,cW,ints_map,h,wS]
theorem eY(l:List (List Int))(hn:∀x∈l,x≠[])(h:l.length<64):pC .sorted [.lst (l.map λx=>.tup (x.map .int))]=some (.new ((bK dF l).map λx=>.tup (x.map .int))):=by
 cases l with
 |nil=>rfl
 |cons a l=>have e:=HQ (a::l) hn;simp only[pC,R9,cW,CQ,e,h,wS]
theorem eK:∀a b:List Int,dh (a.map .int) (b.map .int)=decide (a=b)
 | [],[]=>rfl
 | [],_::_=>rfl
 |_::_,[]=>rfl
 |x::a,y::b=>by
  simp only[List.map_cons,dh,bO,eK a b,List.cons.injEq,Bool.decide_and];rfl
theorem dH(a:List Int):jc (a.map .int)=true:=by
 induction a with
 |nil=>rfl
 |cons x a ih=>simp[jc,gZ,ih]
theorem gu(a:List Int):deps (a.map .int)=0:=by
 induction a with
 |nil=>rfl
 |cons x a ih=>simp[deps,dep,ih]
theorem rP(a b:List Int):fP (.tup (a.map .int)) (.tup (b.map .int))=true:=by simp[fP,gZ,dH,dep,gu]
theorem pY(a b:List Int):fP (.lst (a.map .int)) (.lst (b.map .int))=true:=by simp[fP,gZ,dH,dep,gu]
theorem T7(a b:List Int):ez .Eq (.tup (a.map .int)) (.tup (b.map .int))=some (decide (a=b)):=by simp only[ez,rP,wS,bO,eK]
theorem T8(a b:List Int):ez .NotEq (.tup (a.map .int)) (.tup (b.map .int))=some (!decide (a=b)):=by simp only[ez,rP,wS,bO,eK]
theorem T9(a b:List Int):ez .Eq (.lst (a.map .int)) (.lst (b.map .int))=some (decide (a=b)):=by simp only[ez,pY,wS,bO,eK]
theorem yz(a b:List Int):ez .NotEq (.lst (a.map .int)) (.lst (b.map .int))=some (!decide (a=b)):=by simp only[ez,pY,wS,bO,eK]
theorem Ua(a b:Int):ez .Eq (.int a) (.int b)=some (decide (a=b)):=rfl
theorem Ub(a b:Int):ez .NotEq (.int a) (.int b)=some (!decide (a=b)):=rfl
theorem Uc(a b:Int):ez .Lt (.int a) (.int b)=some (decide (a<b)):=rfl
theorem Ud(a b:Int):ez .LtE (.int a) (.int b)=some (decide (a<=b)):=rfl
theorem Ue(a b:Int):ez .Gt (.int a) (.int b)=some (decide (a > b)):=rfl
theorem Ug(a b:Int):ez .GtE (.int a) (.int b)=some (decide (a ≥ b)):=rfl
theorem MJ(a b:Int):vD .Add (.int a) (.int b)=some (.dat (.int (a+b))):=rfl
theorem MK(a b:Int):vD .Sub (.int a) (.int b)=some (.dat (.int (a - b))):=rfl
theorem ix_t(l:List D)(i:Int):vE (.tup l) (.int i)=L2.fy l i:=rfl
theorem ix_l(l:List D)(i:Int):vE (.lst l) (.int i)=L2.fy l i:=rfl
theorem ix_f(l:List D)(i:Int):vE (.fix l) (.int i)=L2.fy l i:=rfl
theorem gI{α:Type}(l:List α)(i:Nat)(h:i<l.length):L2.fy l (i:Int)=some l[i]:=by unfold L2.fy L2.ql;rw[fN ⋯,fN ⋯];simp[h]
theorem vX(l:List Int)(i:Nat)(h:i<l.length):L2.fy (l.map D.int) (i:Int)=some (.int l[i]):=by
 rw[gI _ _ (by simpa using h)]
 simp
theorem is_tup(l:List D):fX (qB (.tup l)) "tuple"=true:=rfl
theorem Uh(i:Int):fX (qB (.int i)) "int"=true:=rfl
theorem HW(i:Int):fX (qB (.int i)) "bool"=false:=rfl
theorem kD(m:Nat):cL 0 m=((List.range m).map λ(k:Nat)=>(k:Int)).map .int:=by simp[cL]
theorem au(m:Nat)(h:m<=1000):m<=lim:=i5 h ⋯
theorem aX(i:Int)(h:0<=i/\i<=1000):Lr i=true:=by unfold Lr;simp only[eC,hU];lia
section
theorem aZ{fx:Fx}{d:D}(h:fx.np=1):aU rn fx k [.dat d] g1=(cB rn k fx [d]).map λr=>(r,g1):=lP (ds:=[d]) h.symm
theorem bU{fx:Fx}{d e:D}(h:fx.np=2):aU rn fx k [.dat d,.dat e] g1=(cB rn k fx [d,e]).map λr=>(r,g1):=lP (ds:=[d,e]) h.symm
theorem tW{fx:Fx}{d e f:D}(h:fx.np=3):aU rn fx k [.dat d,.dat e,.dat f] g1=(cB rn k fx [d,e,f]).map λr=>(r,g1):=lP (ds:=[d,e,f]) h.symm
end
structure uE(fns:List Fx)(rn:Nat->Rn):Prop where
 e:∀(n:Nat) (bor:List Nat) (k:Nat) (x:Ex) (g:G),(rn (n+1)).e bor k x g=aV (rn n) bor k fns x g
 t:∀(n:Nat) (bor:List Nat) (k:Nat) (x:Ex) (g:G),(rn (n+1)).t bor k x g=stepT (rn n) bor k x g
 b:∀(n:Nat) (bor:List Nat) (k:Nat) (x:List Sm) (g:G),(rn (n+1)).b bor k x g=fE (rn n) bor k x g
 x:∀(n:Nat) (bor:List Nat) (k:Nat) (x:Ex) (g:G),(rn (n+1)).x bor k x g=vJ (rn n) bor k fns x g
 xt:∀(n:Nat) (bor:List Nat) (k:Nat) (x:Ex) (g:G),(rn (n+1)).xt bor k x g=sZ (rn n) bor k x g
 xb:∀(n:Nat) (bor:List Nat) (k:Nat) (x:List Sm) (g:G),(rn (n+1)).xb bor k x g=jB (rn n) bor k x g
theorem MN(fns:List Fx):uE fns (run fns):=⟨λ_ _ _ _ _=>rfl,λ_ _ _ _ _=>rfl,λ_ _ _ _ _=>rfl,λ_ _ _ _ _=>rfl,λ_ _ _ _ _=>rfl,λ_ _ _ _ _=>rfl⟩
def CW(rn:Rn)(k:Nat)(fx:Fx)(ds:List D):Option Nat:=match rn.xb [] k fx.body (dz fx.n (Vy ds))with
 |some (ci,_)=>some ci
 |none=>none
theorem CZ{rn:Rn}{k:Nat}{g1:G}{fx:Fx}{ds:List D}(hl:ds.length=fx.np):vI rn fx k (ds.map .dat) g1=(CW rn k fx ds).map λr=>(r,g1):=by
 unfold vI CW;rw[vV,vW,zX];simp only[fR,hl,List.map_nil,qS,and_self,wS];cases rn.xb [] k fx.body (dz fx.n (ds.map .dat))with
 |none=>rfl
 |some p=>rfl
section
theorem kF{fx:Fx}{d:D}(h:fx.np=1):vI rn fx k [.dat d] g1=(CW rn k fx [d]).map λr=>(r,g1):=CZ (ds:=[d]) h.symm
end
abbrev evZ:=And.intro @is_tup (And.intro @Uh (And.intro @HW (And.intro @HR (And.intro @HS (And.intro @CT (And.intro @CV (And.intro @yx (And.intro @yy (And.intro @Mz (And.intro @MF (And.intro @T6 (And.intro @T7 (And.intro @T8 (And.intro @T9 (And.intro @yz (And.intro @Ua (And.intro @Ub (And.intro @Uc (And.intro @Ud (And.intro @Ue (And.intro @Ug (And.intro @MJ (And.intro @MK (And.intro @ix_t (And.intro @ix_l @ix_f)))))))))))))))))))))))))
abbrev unfZ{fns rn}(U:uE fns rn):=And.intro U.e (And.intro U.t (And.intro U.b (And.intro U.x (And.intro U.xt U.xb))))
end Ev
local macro_rules | `(tactic|simp! [$u:term,$ls,*])=>`(tactic|simp[-List.map_map,-List.map_cons,-List.map_nil,Ev.unfZ $u,Ev.evZ,Ev.vJ,Ev.sZ,Ev.pG,Ev.jB,Ev.xArgs,Ev.fE,Ev.aH,Ev.aV,Ev.stepT,Ev.argsR,Ev.pF,Ev.eX,Ev.toD,Ev.norm,Ev.pk,Ev.Az,Ev.dz,Ev.dj,Ev.Vy,Ev.G5,Ev.X8,Ev.vF,Ev.G6,Ev.Du,Ev.KC,$ls,*])
local macro_rules | `(~~~$x)=>`(Ev.D.tup (List.map Ev.D.int $x))
namespace Ev
noncomputable def bN:Fx:=⟨2,4,[(.ite (.ix (.slot 0) (.val (.int 1))) [(.set 2 (.bin .Mod (.ix (.slot 0) (.val (.int 0))) (.slot 1))),(.item 0 (.val (.int 0)) (.bin .FloorDiv (.ix (.slot 0) (.val (.int 0))) (.slot 1))),(.ret (.slot 2))] []),(.item 0 (.val (.int 0)) (.bin .Mod (.bin .Add (.bin .Mult (.ix (.slot 0) (.val (.int 0))) (.val (.int 48271))) (.val (.int 29))) (.val (.int 2147483647)))),(.set 3 (.bin .Mod (.bin .Add (.bin .Add (.bin .Mult (.ix (.slot 0) (.val (.int 0))) (.ix (.slot 0) (.val (.int 0)))) (.bin .Mult (.val (.int 39373)) (.ix (.slot 0) (.val (.int 0))))) (.val (.int 7))) (.val (.int 2147483629)))),(.set 3 (.bin .Mod (.bin .Add (.bin .Mult (.slot 3) (.slot 3)) (.bin .Mult (.val (.int 16807)) (.slot 3))) (.val (.int 2147483587)))),(.ret (.bin .Mod (.bin .FloorDiv (.slot 3) (.val (.int 8))) (.slot 1)))]⟩
noncomputable def lR(ti:Nat):Fx:=⟨2,4,[(.set 2 (.blt .list [(.slot 1)])),(.set 3 (.lst [])),(.while (.cmp .NotEq (.slot 2) (.lst [])) [(.expr (.append 3 (.iF 2 (.call ti [(.slot 0),(.blt .len [(.slot 2)])]))))]),(.ret (.slot 3))]⟩
noncomputable def jr(ti mi:Nat):Fx:=⟨2,5,[(.set 2 (.call mi [(.slot 0),(.eW (.slot 1))])),(.ite (.cmp .Gt (.call ti [(.slot 0),(.val (.int 3))]) (.val (.int 0))) [(.ret (.blt .tuple [(.slot 2)]))] []),(.set 3 (.eW (.slot 1))),(.loop (.nm 4) (.pB (.val (.int 0)) (.bin .Sub (.slot 1) (.val (.int 1))) (.val (.int 2))) [(.ite (.cmp .Eq (.call ti [(.slot 0),(.val (.int 2))]) (.val (.int 1))) [(.items2 3 (.ix (.slot 2) (.slot 4)) 3 (.ix (.slot 2) (.bin .Add (.slot 4) (.val (.int 1)))) (.tup [(.ix (.slot 2) (.bin .Add (.slot 4) (.val (.int 1)))),(.ix (.slot 2) (.slot 4))]))] [])]),(.ret (.blt .tuple [(.slot 3)]))]⟩
def mV:Fx:=⟨2,2,[(.ite (.cmp .Lt (.slot 1) (.blt .len [(.slot 0)])) [(.ret (.ix (.slot 0) (.slot 1)))] []),(.ret (.val (.int 0)))]⟩
noncomputable def lT(ci:Nat):Fx:=⟨2,3,[(.set 2 (.call ci [(.slot 0),(.slot 1)])),(.ite (.cmp .GtE (.slot 2) (.bin .Pow (.val (.int 10)) (.val (.int 18)))) [(.ret (.lst [(.bin .Sub (.slot 2) (.bin .Pow (.val (.int 10)) (.val (.int 18)))),(.val (.bl true))]))] []),(.ret (.lst [(.bin .Mod (.slot 2) (.val (.int 2147483647))),(.val (.bl false))]))]⟩
def Tn(m:Nat)(t:List Int):Prop:=cZ t=(List.range m).map λ(k:Nat)=>(k:Int)
theorem Tn.length{m:Nat}{t:List Int}(h:Tn m t):t.length=m:=by have:=(dB t).length_eq;rw[h]at this;simpa using this.symm
theorem Tn.mem{m:Nat}{t:List Int}(h:Tn m t){x:Int}:x∈t ↔ 0<=x/\x<m:=by
 rw[<- (dB t).mem_iff,h,i7];constructor
 . rintro⟨k,hk,rfl⟩;have:=sT.mp hk;lia
 . rintro⟨h1,h2⟩;exact⟨x.toNat,sT.mpr ⋯,by lia⟩
theorem Tn.of{m:Nat}{t:List Int}(h:t.Perm ((List.range m).map λ(k:Nat)=>(k:Int))):Tn m t:=by refine (oY h.symm ?_).symm;rw[List.pairwise_map];exact List.pairwise_lt_range.imp λh=>by lia
theorem Tn.perm{m:Nat}{t:List Int}(h:Tn m t):t.Perm ((List.range m).map λ(k:Nat)=>(k:Int)):=by rw[<- h];exact (dB t).symm
noncomputable def gt(t:List Int)(i:Int):Int:=t.getD i.toNat 0
theorem iK{t:List Int}{i:Int}(h:0<=i/\i<t.length):L2.fy (t.map D.int) i=some (.int (gt t i)):=by
 obtain⟨n,rfl⟩:∃n:Nat,i=n:=⟨i.toNat,by lia⟩
 rw[vX t n ⋯];simp[gt,(by lia:n<t.length)]
noncomputable def nums(m:Nat):List Int:=(List.range m).map λ(k:Nat)=>(k:Int)
theorem gw{m:Nat}{x:Int}:x∈nums m ↔ 0<=x/\x<m:=by
 unfold nums;rw[i7];constructor
 . rintro⟨k,hk,rfl⟩;have:=sT.mp hk;lia
 . rintro⟨h1,h2⟩;exact⟨x.toNat,sT.mpr ⋯,by lia⟩
theorem eZ(m:Nat):(nums m).length=m:=by simp[nums]
theorem Tn.lU{m:Nat}{t:List Int}(h:Tn m t){i:Int}(hi:0<=i/\i<m):0<=gt t i/\gt t i<m:=by
 refine h.mem.mp ?_;have hl:=h.length;have:i.toNat<t.length:=by lia
 unfold gt;rw[l9,oC this];exact List.getElem_mem _
theorem Tn.nodup{m:Nat}{t:List Int}(h:Tn m t):t.Nodup:=by refine (h.perm.nodup_iff).mpr ?_;rw[AW,List.pairwise_map];exact List.nodup_range.imp λh=>by lia
theorem Tn.inj{m:Nat}{t:List Int}(h:Tn m t){i j:Int}(hi:0<=i/\i<m)(hj:0<=j/\j<m)(e:gt t i=gt t j):i=j:=by
 have hl:=h.length;have h1:i.toNat<t.length:=by lia
 have h2:j.toNat<t.length:=by lia
 unfold gt at e;rw[l9,oC h1,l9,oC h2]at e;have:=(List.getElem_inj h.nodup).mp (show t[i.toNat]=t[j.toNat]from e)
 lia
theorem lV{α β:Type}{f:α->β}{l:List α}(h:l.Nodup)(hf:∀x∈l,∀y∈l,f x=f y->x=y):(l.map f).Nodup:=by
 induction l with
 |nil=>exact qS
 |cons a l ih=>
  obtain⟨h1,h2⟩:=hV.mp h;rw[List.map_cons];refine hV.mpr ⟨λhm=>?_,ih h2 λx hx y hy=>hf x (a9 _ hx) y (a9 _ hy)⟩
  obtain⟨b,hb,e⟩:=i7.mp hm;have:=hf b (a9 _ hb) a dA e;exact h1 (this▸hb)
noncomputable def tX(a:Int):List Int->List (List Int)
 | []=>[[a]]
 |b::l=>(a::b::l)::(tX a l).map (b :: ·)
def tY:List Int->List (List Int)
 | []=>[[]]
 |a::l=>(tY l).flatMap (tX a)
theorem pZ(a:Int):∀p1 p2:List Int,p1++a::p2∈tX a (p1++p2)
 | [],[]=>fA.mpr rfl
 | [],_::_=>dA
 |b::p1,p2=>by
  show b::(p1++a::p2)∈(a::b::(p1++p2))::(tX a (p1++p2)).map (b :: ·);exact a9 _ (i7.mpr ⟨_,pZ a p1 p2,rfl⟩)
theorem mW:∀{l p:List Int},p.Perm l->p∈tY l
 | [],p,h=>by rw[List.Perm.eq_nil h];exact fA.mpr rfl
 |a::l,p,h=>by
  have ha:a∈p:=h.mem_iff.mpr dA;obtain⟨p1,p2,rfl⟩:=List.append_of_mem ha;have h2:(p1++p2).Perm l:=(List.perm_middle.symm.trans h).cons_inv;exact List.mem_flatMap.mpr ⟨p1++p2,mW h2,pZ a p1 p2⟩
theorem tZ(m:Nat):Tn m (nums m):=Tn.of (x0 _)
theorem MP{m:Nat}{i:Int}(h:0<=i/\i<m):gt (nums m) i=i:=by
 have:i.toNat<m:=by lia
 unfold gt nums;simp[this];lia
theorem HX{m:Nat}{b:List Int}(h:b.length=m):(nums m).map (gt b)=b:=by
 subst h;refine List.ext_getElem (by simp[nums]) λi h1 h2=>?_
 simp[nums,gt,h2]
theorem Z3{α:Type}{l:List α}{p:α->Bool}(c k:Nat)(hc:0<c)(hl:l.length<=c * k)(h:∀i,i<k->(((l.drop (c * i)).take c).all p)=true):l.all p=true:=by
 refine hZ.mpr λx hx=>?_
 obtain⟨j,hj,rfl⟩:=List.getElem_of_mem hx;have hi:j / c<k:=Nat.div_lt_of_lt_mul (eD hj hl);refine hZ.mp (h (j / c) hi) _ (kS (i:=j % c) ?_);rw[u8 (Nat.mod_lt _ hc),List.getElem?_drop,Nat.div_add_mod,oC hj]
theorem aG{rn:Rn}{bor:List Nat}{k:Nat}{st:Sm}{rest:List Sm}{g g1:G}(h:aH rn bor k st g=some (.nx,g1)):fE rn bor k (st::rest) g=fE rn bor k rest g1:=by
 conv=>lhs;unfold fE
 rw[h]
noncomputable abbrev St(s:Int)(fl:Bool):Slot:=.own [.int s,.bl fl]
theorem nQ(a b:Int)(h:0<b):vD .Mod (.int a) (.int b)=some (.dat (.int (a % b))):=by simp[vD,lJ,h]
theorem uc(a b:Int)(h:0<b/\b<1073741824):vD .FloorDiv (.int a) (.int b)=some (.dat (.int (a / b))):=by simp[vD,lJ,h]
theorem kG(a b:Int)(h:(-(2 ^ 64)<a/\a<2 ^ 64)\/(-(2 ^ 64)<b/\b<2 ^ 64)):vD .Mult (.int a) (.int b)=some (.dat (.int (a * b))):=by
 have:Lp a b=true:=by unfold Lp;simp only[AF,eC,hU];exact h
 simp[vD,Lq,this]
section
variable{ti mi:Nat}(U:uE fns rn)(hT:fns[ti]?=some bN)
include U
theorem Ui(s:Int)(fl:Bool)(m:Int)(hm:0<m/\m<1000):∃r s' s2 s3,0<=r/\r<m/\(rn (n+20)).b [0] k bN.body [St s fl,.dat (.int m),.no,.no]=some (.rt (.dat (.int r)),[St s' fl,.dat (.int m),s2,s3]):=by
 have i0:L2.fy [D.int s,D.bl fl] 0=some (.int s):=rfl;have i1:L2.fy [D.int s,D.bl fl] 1=some (.bl fl):=rfl;have x0':L2.ql 2 0=some 0:=rfl;cases fl with
 |true=>refine⟨s % m,s / m,.dat (.int (s % m)),.no,CA _ ⋯,BN _ hm.1,?_⟩;unfold bN;simp! [U,i0,i1,x0',nQ _ _ hm.1,uc _ _ (show 0<m/\m<1073741824 by lia)]
 |false=>
  generalize hs1:(s * 48271+29) % 2147483647=s1;have h1:0<=s1/\s1<2147483647:=by rw[<- hs1];exact⟨CA _ ⋯,BN _ ⋯⟩
  have j0:L2.fy [D.int s1,D.bl false] 0=some (.int s1):=rfl;generalize hs2:(s1 * s1+39373 * s1+7) % 2147483629=s2;have h2:0<=s2/\s2<2147483629:=by rw[<- hs2];exact⟨CA _ ⋯,BN _ ⋯⟩
  generalize hs3:(s2 * s2+16807 * s2) % 2147483587=s3;refine⟨s3 / 8 % m,s1,.no,.dat (.int s3),CA _ ⋯,BN _ hm.1,?_⟩;unfold bN;simp! [U,i0,i1,x0',nQ,kG s 48271 (.inr ⋯),hs1,j0,kG s1 s1 (.inl ⋯),kG 39373 s1 (.inl ⋯),hs2,kG s2 s2 (.inl ⋯),kG 16807 s2 (.inl ⋯),hs3,uc _ _ (show (0:Int)<8/\(8:Int)<1073741824 by decide),hm.1]
theorem dM{i:Nat}{s:Int}{fl:Bool}{m:Int}(hi:g[i]?=some (St s fl))(hm:0<m/\m<1000):∃r s',0<=r/\r<m/\aU (rn (n+20)) bN k [.var i,.dat (.int m)] g=some (.dat (.int r),g.set i (St s' fl)):=by
 obtain⟨r,s',s2,s3,h1,h2,h⟩:=Ui U (n:=n) (k:=k) s fl m hm;refine⟨r,s',h1,h2,?_⟩;have hp:dz bN.n [St s fl,.dat (.int m)]=[St s fl,.dat (.int m),.no,.no]:=rfl;unfold aU;simp only[vars,cu,hi,List.map_cons,List.map_nil];rw[fN ⟨rfl,by simp⟩,hp,h]
 rfl
omit U in
theorem HY(a:List Int):ez .NotEq (.lst (a.map .int)) (.lst [])=some (!decide (a=[])):=yz a []
omit U in
theorem yC{l i:Nat}(h:i<l):L2.ql l (i:Int)=some i:=by unfold L2.ql;rw[fN ⋯,fN ⋯];simp
omit U in
theorem rQ:∀(l:List Int) (j:Nat),(l.map D.int).eraseIdx j=(l.eraseIdx j).map .int
 | [],_=>rfl
 |_::_,0=>rfl
 |a::l,j+1=>by simp[rQ l j]
omit U in
theorem vY:∀(l:List Int) (j:Nat) (h:j<l.length),([l[j]]++l.eraseIdx j).Perm l
 |a::l,0,_=>x0 _
 |a::l,j+1,h=>(List.Perm.swap a _ _).trans ((vY l j (by simpa using h)).cons a)
include hT in
theorem Ia{i:Nat}{s:Int}{fl:Bool}(th:List Int)(hi:g[i]?=some (St s fl))(hl:th.length<=10):∃(row:List Int) (s':Int),row.Perm th/\aU (rn (n+50)) (lR ti) (k+1) [.var i,.dat (.lst (th.map .int))] g=some (.new (row.map .int),g.set i (St s' fl)):=by
 have loop:=zZ (c:=(rn (n+49)).t [0] (k+1) (.cmp .NotEq (.slot 2) (.lst []))) (b:=(rn (n+49)).b [0] (k+1) [(.expr (.append 3 (.iF 2 (.call ti [(.slot 0),(.blt .len [(.slot 2)])]))))])
  (I:=λm g=>∃(s:Int) (cX fj:List Int),cX.length=m/\(fj++cX).Perm th/\g=[St s fl,.dat (.lst (th.map .int)),.own (cX.map .int),.own (fj.map .int)])
  (step:=λm g h=>by
   obtain⟨s,cX,fj,h1,h2,rfl⟩:=h;have aL:=h2.length_eq;rw[eR]at aL;obtain⟨r,s',q1,q2,q3⟩:=dM U (n:=n+25) (k:=k) (g:=[St s fl,.dat (.lst (th.map .int)),.own (cX.map .int),.own (fj.map .int)]) (i:=0) (s:=s) (fl:=fl) (m:=(cX.length:Int)) rfl ⋯;obtain⟨j,rfl⟩:∃j:Nat,r=j:=⟨r.toNat,by lia⟩
   have hj:j<cX.length:=by lia
   have e1:(cX.map D.int)[j]?=some (.int cX[j]):=by simp[hj]
   have e2:(cX.map D.int).eraseIdx j=(cX.eraseIdx j).map .int:=rQ cX j;have z1:cX.length<lim:=eD (y0 _) (au (cX.length+1) ⋯);have z2:fj.length<lim:=eD (y0 _) (au (fj.length+1) ⋯);have fz:cX≠[]:=λe=>by rw[e]at hj;exact absurd hj (BH _)
   refine⟨[St s fl,.dat (.lst (th.map .int)),.own (cX.map .int),.own (fj.map .int)],[St s' fl,.dat (.lst (th.map .int)),.own ((cX.eraseIdx j).map .int),.own ((fj++[cX[j]]).map .int)],by simp! [U,HY,fz],?_,s',cX.eraseIdx j,fj++[cX[j]],?_,?_,rfl⟩
   . have Zv:aU (rn (n+45)) bN k [.var 0,.dat (.int (cX.length:Int))] [St s fl,.dat (.lst (th.map .int)),.own (cX.map .int),.own (fj.map .int)]=some (.dat (.int j),[St s' fl,.dat (.lst (th.map .int)),.own (cX.map .int),.own (fj.map .int)]):=q3;simp! [U,hT,Zv,yC hj,e1,e2,z1,z2];simp
   . rw[List.length_eraseIdx_of_lt hj];lia
   .
    refine List.Perm.trans ?_ h2;rw[AT];refine List.Perm.append_left _ ?_;exact vY cX j hj)
  (fin:=λg h=>by
   obtain⟨s,cX,fj,h1,h2,rfl⟩:=h;have:cX=[]:=List.eq_nil_of_length_eq_zero h1;simp! [U,HY,this])
 obtain⟨g',⟨s',cX,fj,q1,q2,rfl⟩,q3⟩:=loop th.length 100000 [St s fl,.dat (.lst (th.map .int)),.own (th.map .int),.own []] ⋯ ⟨s,th,[],rfl,by simp,rfl⟩
 have hnil:cX=[]:=List.eq_nil_of_length_eq_zero q1;subst hnil;rw[mB]at q2;refine⟨fj,s',q2,?_⟩;have hp:dz (lR ti).n [St s fl,.dat (.lst (th.map .int))]=[St s fl,.dat (.lst (th.map .int)),.no,.no]:=rfl;have body:(rn (n+50)).b [0] (k+1) (lR ti).body [St s fl,.dat (.lst (th.map .int)),.no,.no]=some (.rt (.var 3),[St s' fl,.dat (.lst (th.map .int)),.own [],.own (fj.map .int)]):=by unfold lR;simp! [U,q3]
 unfold aU;simp only[vars,cu,hi,List.map_cons,List.map_nil];rw[fN ⟨rfl,by simp⟩,hp,body]
 rfl
omit U in
theorem MT{m:Nat}{f:List Int}(h:Tn m f){p q:Int}(hp:0<=p/\p<m)(hq:0<=q/\q<m)(fz:p≠q)(e1:gt f p=p)(e2:gt f q=q) :
  Tn m ((f.set p.toNat q).set q.toNat p)/\∀x:Int,0<=x/\x<m->x≠p->x≠q->gt ((f.set p.toNat q).set q.toNat p) x=gt f x:=by
 have hl:=h.length;have hget:∀x:Int,0<=x/\x<m->gt ((f.set p.toNat q).set q.toNat p) x=if x=q then p else if x=p then q else gt f x:=λx hx=>by
  have hx':x.toNat<f.length:=by lia
  unfold gt;rw[l9,List.getElem?_set,List.getElem?_set];by_cases OD:x=q
  . subst OD;simp[hx']
  .
   have n1:q.toNat≠x.toNat:=by lia
   rw[gN n1,gN OD];by_cases Uj:x=p
   . subst Uj;simp[hx']
   .
    have n2:p.toNat≠x.toNat:=by lia
    rw[gN n2,gN Uj,l9]
 refine⟨?_,λx hx n1 n2=>by rw[hget x hx,gN n2,gN n1]⟩
 have aL:((f.set p.toNat q).set q.toNat p).length=m:=by simp[hl]
 have em:((f.set p.toNat q).set q.toNat p)=(nums m).map (gt ((f.set p.toNat q).set q.toNat p)):=(HX aL).symm;have ex:∀x∈nums m,gt ((f.set p.toNat q).set q.toNat p) x=(λy:Int=>if y=p then q else if y=q then p else y) (gt f x):=λx hx=>by
  have hx':=gw.mp hx;rw[hget x hx'];dsimp only;by_cases OD:x=q
  . rw[fN OD,OD,e2,gN (mP fz),fN rfl]
  .
   by_cases Uj:x=p
   . rw[gN OD,fN Uj,Uj,e1,fN rfl]
   .
    have a1:gt f x≠p:=λz=>Uj (h.inj hx' hp (z.trans e1.symm))
    have a2:gt f x≠q:=λz=>OD (h.inj hx' hq (z.trans e2.symm))
    rw[gN OD,gN Uj,gN a1,gN a2]
 rw[em,sK ex];have e3:(nums m).map (λx=>(λy:Int=>if y=p then q else if y=q then p else y) (gt f x))=f.map λy:Int=>if y=p then q else if y=q then p else y:=by
  conv=>rhs;rw[<- HX hl,List.map_map]
  rfl
 rw[e3];refine Tn.of ?_;refine (h.perm.map _).trans ?_;have inj:∀x y:Int,(if x=p then q else if x=q then p else x)=(if y=p then q else if y=q then p else y)->x=y:=λx y z=>by
  split at z <;> split at z <;> (try split at z) <;> (try split at z) <;> lia
 refine (List.perm_ext_iff_of_nodup (lV (tZ m).nodup λx _ y _ z=>inj x y z) (tZ m).nodup).mpr λx=>?_
 rw[i7];constructor
 .
  rintro⟨y,hy,rfl⟩;have:=gw.mp hy;refine gw.mpr ?_;split
  . exact hq
  .
   split
   . exact hp
   . exact this
 .
  intro hx;have hx':=gw.mp hx;refine⟨if x=p then q else if x=q then p else x,gw.mpr ?_,?_⟩
  .
   split
   . exact hq
   .
    split
    . exact hp
    . exact hx'
  .
   by_cases z1:x=p
   . rw[fN z1,gN (mP fz),fN rfl];exact z1.symm
   .
    by_cases z2:x=q
    . rw[gN z1,fN z2,fN rfl];exact z2.symm
    . rw[gN z1,gN z2,gN z1,gN z2]
end
section
variable{ti mi:Nat}(U:uE fns rn)(hT:fns[ti]?=some bN)(hM:fns[mi]?=some (lR ti))
include U hT hM
theorem z0{i:Nat}{s:Int}{fl:Bool}(m:Nat)(hm:1<=m/\m<=6)(hi:g[i]?=some (St s fl)):∃(t:List Int) (s':Int),Tn m t/\aU (rn (n+80)) (jr ti mi) (k+2) [.var i,.dat (.int m)] g=some (.dat (~~~t),g.set i (St s' fl)):=by
 have hr:cL 0 m=(nums m).map .int:=kD m;have hl:=eZ m;obtain⟨row,s1,vZ,q1⟩:=Ia U hT (n:=n+28) (k:=k) (g:=[St s fl,.dat (.int m),.no,.no,.no]) (i:=0) (s:=s) (fl:=fl) (nums m) rfl ⋯;have hR:Tn m row:=Tn.of vZ;have hRl:=hR.length;have JZ:aU (rn (n+78)) (lR ti) (k+1) [.var 0,.dat (.lst ((nums m).map .int))] [St s fl,.dat (.int m),.no,.no,.no]=some (.new (row.map .int),[St s1 fl,.dat (.int m),.no,.no,.no]):=q1;have cI:aH (rn (n+79)) [0] (k+2) (.set 2 (.call mi [(.slot 0),(.eW (.slot 1))])) [St s fl,.dat (.int m),.no,.no,.no]=some (.nx,[St s1 fl,.dat (.int m),.own (row.map .int),.no,.no]):=by simp! [U,hM,JZ,aX m ⋯,au m ⋯,hr]
 obtain⟨r,s2,r1,r2,q2⟩:=dM U (n:=n+57) (k:=k+1) (g:=[St s1 fl,.dat (.int m),.own (row.map .int),.no,.no]) (i:=0) (s:=s1) (fl:=fl) (m:=3) rfl ⋯;have Fd:aU (rn (n+77)) bN (k+1) [.var 0,.dat (.int 3)] [St s1 fl,.dat (.int m),.own (row.map .int),.no,.no]=some (.dat (.int r),[St s2 fl,.dat (.int m),.own (row.map .int),.no,.no]):=q2;have hp:dz (jr ti mi).n [St s fl,.dat (.int m)]=[St s fl,.dat (.int m),.no,.no,.no]:=rfl;have fin:∀(t:List Int) (s':Int) (a b c:Slot),Tn m t->(rn (n+80)).b [0] (k+2) (jr ti mi).body [St s fl,.dat (.int m),.no,.no,.no]=some (.rt (.dat (~~~t)),[St s' fl,.dat (.int m),a,b,c])->∃(t:List Int) (s':Int),Tn m t/\aU (rn (n+80)) (jr ti mi) (k+2) [.var i,.dat (.int m)] g=some (.dat (~~~t),g.set i (St s' fl)):=λt s' a b c ht hb=>by
  refine⟨t,s',ht,?_⟩;unfold aU;simp only[vars,cu,hi,List.map_cons,List.map_nil];rw[fN ⟨rfl,by simp⟩,hp,hb]
  rfl
 by_cases hr0:r > 0
 . refine fin row s2 (.own (row.map .int)) .no .no hR ?_;unfold jr;rw[U.b];rw[aG cI];simp! [U,hT,Fd,hr0]
 .
  have aK:aH (rn (n+79)) [0] (k+2) (.ite (.cmp .Gt (.call ti [(.slot 0),(.val (.int 3))]) (.val (.int 0))) [(.ret (.blt .tuple [(.slot 2)]))] []) [St s1 fl,.dat (.int m),.own (row.map .int),.no,.no]=some (.nx,[St s2 fl,.dat (.int m),.own (row.map .int),.no,.no]):=by simp! [U,hT,Fd,hr0]
  have dU:aH (rn (n+79)) [0] (k+2) (.set 3 (.eW (.slot 1))) [St s2 fl,.dat (.int m),.own (row.map .int),.no,.no]=some (.nx,[St s2 fl,.dat (.int m),.own (row.map .int),.own ((nums m).map .int),.no]):=by simp! [U,aX m ⋯,au m ⋯,hr]
  generalize hN:lE 0 ((m:Int) - 1) 2=N;have hN2:∀j,j<N->2 * j+1<m:=λj hj=>by
   rw[<- hN]at hj;unfold lE at hj;split at hj
   . lia
   . lia
  have loop:=bT (T:=.nm 4) (b:=(rn (n+79)).b [0] (k+2) [(.ite (.cmp .Eq (.call ti [(.slot 0),(.val (.int 2))]) (.val (.int 1))) [(.items2 3 (.ix (.slot 2) (.slot 4)) 3 (.ix (.slot 2) (.bin .Add (.slot 4) (.val (.int 1)))) (.tup [(.ix (.slot 2) (.bin .Add (.slot 4) (.val (.int 1)))),(.ix (.slot 2) (.slot 4))]))] [])]) (λ(j:Nat)=>D.int ((j:Int) * 2))
   (I:=λl g=>∃(j:Nat) (s:Int) (f:List Int) (s4:Slot),l=List.range' j (N - j)/\Tn m f/\(∀p:Nat,2 * j<=p->p<m->gt f (gt row p)=gt row p)/\g=[St s fl,.dat (.int m),.own (row.map .int),.own (f.map .int),s4])
   (step:=λa l g h=>by
    obtain⟨j,s,f,s4,h1,h2,h3,rfl⟩:=h;have hjN:j<N:=by
     rcases t6 j N with h |h
     . exact h
     . rw[An h]at h1;cases h1
    have hc:List.range' j (N - j)=j::List.range' (j+1) (N - (j+1)):=by rw[show N - j=(N - (j+1))+1 by lia,AJ]
    rw[hc]at h1;injection h1 with e1 e2;subst e1 e2;have hj2:=hN2 a hjN;obtain⟨z,hz⟩:∃z:Int,z=(a:Int) * 2:=⟨_,rfl⟩;rw[<- hz];obtain⟨r,s',r1,r2,q⟩:=dM U (n:=n+56) (k:=k+1) (g:=[St s fl,.dat (.int m),.own (row.map .int),.own (f.map .int),.dat (.int z)]) (i:=0) (s:=s) (fl:=fl) (m:=2) rfl ⋯;have q':aU (rn (n+76)) bN (k+1) [.var 0,.dat (.int 2)] [St s fl,.dat (.int m),.own (row.map .int),.own (f.map .int),.dat (.int z)]=some (.dat (.int r),[St s' fl,.dat (.int m),.own (row.map .int),.own (f.map .int),.dat (.int z)]):=q;by_cases hr1:r=1
    .
     have hfl:=h2.length;have p1:=hR.lU (i:=((2 * a:Nat):Int)) ⋯;have p2:=hR.lU (i:=((2 * a+1:Nat):Int)) ⋯;have fz:gt row ((2 * a:Nat):Int)≠gt row ((2 * a+1:Nat):Int):=λz=>by have:=hR.inj ⋯ ⋯ z;lia
     obtain⟨x1,x2⟩:=MT h2 p1 p2 fz (h3 (2 * a) ⋯ ⋯) (h3 (2 * a+1) ⋯ ⋯);have a1:L2.fy (row.map D.int) z=some (.int (gt row ((2 * a:Nat):Int))):=by rw[hz,show (a:Int) * 2=((2 * a:Nat):Int)by lia];exact iK ⋯
     have a2:L2.fy (row.map D.int) (z+1)=some (.int (gt row ((2 * a+1:Nat):Int))):=by rw[hz,show (a:Int) * 2+1=((2 * a+1:Nat):Int)by lia];exact iK ⋯
     have n1:∀p:Nat,2 * (a+1)<=p->p<m->gt row p≠gt row ((2 * a:Nat):Int)/\gt row p≠gt row ((2 * a+1:Nat):Int):=λp h1 h2=>⟨λz=>by have:=hR.inj ⋯ ⋯ z;lia,λz=>by have:=hR.inj ⋯ ⋯ z;lia⟩
     generalize gt row ((2 * a:Nat):Int)=p at p1 fz x1 x2 a1 n1;generalize gt row ((2 * a+1:Nat):Int)=q at p2 fz x1 x2 a2 n1;obtain⟨pn,rfl⟩:∃pn:Nat,p=pn:=⟨p.toNat,by lia⟩
     obtain⟨qn,rfl⟩:∃qn:Nat,q=qn:=⟨q.toNat,by lia⟩
     refine⟨[St s fl,.dat (.int m),.own (row.map .int),.own (f.map .int),.dat (.int z)],[St s' fl,.dat (.int m),.own (row.map .int),.own (((f.set pn qn).set qn pn).map .int),.dat (.int z)],rfl,?_,a+1,s',_,_,rfl,(by simpa only[pE]using x1),?_,rfl⟩
     . have l1:L2.ql f.length (pn:Int)=some pn:=yC ⋯;have l2:L2.ql f.length (qn:Int)=some qn:=yC ⋯;simp! [U,hT,q',hr1,a1,a2,l1,l2,au 2 ⋯]
     . intro p hp1 hp2;have hx:=n1 p hp1 hp2;have hg:=x2 (gt row p) (hR.lU ⋯) hx.1 hx.2;simp only[pE]at hg;rw[hg];exact h3 p ⋯ hp2
    .
     refine⟨[St s fl,.dat (.int m),.own (row.map .int),.own (f.map .int),.dat (.int z)],[St s' fl,.dat (.int m),.own (row.map .int),.own (f.map .int),.dat (.int z)],rfl,?_,a+1,s',f,_,rfl,h2,λp hp=>h3 p ⋯,rfl⟩
     simp! [U,hT,q',hr1])
  obtain⟨g',⟨j,s3,f,s4,w1,w2,w3,rfl⟩,w4⟩:=loop (List.range' 0 N) [St s2 fl,.dat (.int m),.own (row.map .int),.own ((nums m).map .int),.no] ⟨0,s2,nums m,.no,rfl,tZ m,λp _ hp=>MP (hR.lU ⋯),rfl⟩
  refine fin f s3 (.own (row.map .int)) (.own (f.map .int)) s4 w2 ?_;have sd:qF 0 2 N=(List.range' 0 N).map λ(j:Nat)=>D.int ((j:Int) * 2):=by unfold qF;rw[wP];exact sK λj _=>by rw[CI]
  have o1:vG ((m:Int) - 1)=true:=by unfold vG;simp;lia
  have o2:vG 0=true:=rfl;have o3:vG 2=true:=rfl;unfold jr;rw[U.b,aG cI,aG aK,aG dU];simp! [U,Tg.ix,Tg.gH,eE,o1,o2,o3,hN,sd,w4]
end
section
variable{ci:Nat}(U:uE fns rn)(hC:fns[ci]?=some mV)
include U hC
omit U hC in
theorem sA:vD .Pow (.int 10) (.int 18)=some (.dat (.int (10 ^ 18))):=by rfl
theorem Ib(ns:List Int)(hl:ns.length<=1000)(j:Nat):∃(s:Int) (fl:Bool),cB (rn (n+40)) (k+1) (lT ci) [.fix (ns.map .int),.int j]=some (.new [.int s,.bl fl]):=by
 obtain⟨v,q⟩:∃v:Int,∀n,cB (rn (n+20)) k mV [.fix (ns.map .int),.int j]=some (.dat (.int v)):=by
  by_cases h:j<ns.length
  .
   refine⟨ns[j],λn=>?_⟩
   have h':(j:Int)<ns.length:=by lia
   have:=vX ns j h;unfold cB mV;simp! [U,pX,h',this]
  .
   refine⟨0,λn=>?_⟩
   have h' : ¬ (j:Int)<ns.length:=by lia
   unfold cB mV;simp! [U,pX,h']
 by_cases hv:(1000000000000000000:Int)<=v
 . refine⟨v - 1000000000000000000,true,?_⟩;unfold cB lT;simp! [U,hC,bU (fx:=mV) rfl,q,sA,hv,au 2 ⋯]
 . refine⟨v % 2147483647,false,?_⟩;unfold cB lT;simp! [U,hC,bU (fx:=mV) rfl,q,sA,hv,au 2 ⋯,nQ]
end
noncomputable def fc:Fx:=⟨1,1,[(.ret (.and [(.rH (.slot 0) "int"),(.not (.rH (.slot 0) "bool"))]))]⟩
noncomputable def fG(w:Nat):Fx:=⟨3,3,[(.ret (.and [(.call w [(.slot 0)]),(.chain (.slot 1) [.LtE,.LtE] [(.slot 0),(.slot 2)])]))]⟩
def isInt:D->Bool
 |.int _=>true
 |_=>false
noncomputable def Uk(lo hi:Int):D->Bool
 |.int i=>decide (lo<=i/\i<=hi)
 |_=>false
section
variable{w wi mw it ci cj:Nat}(U:uE fns rn)
include U
theorem kI(d:D):cB (rn (n+6)) k fc [d]=some (.dat (.bl (isInt d))):=by unfold cB fc;cases d <;> simp! [U,fX,qB,isInt]
variable(hW:fns[w]?=some fc)
include hW
theorem rR(d:D)(lo hi:Int):cB (rn (n+14)) (k+1) (fG w) [d,.int lo,.int hi]=some (.dat (.bl (Uk lo hi d))):=by
 unfold cB fG;cases d with
 |int i=>
  by_cases h1:lo<=i
  .
   by_cases h2:i<=hi
   . simp! [U,hW,aZ (fx:=fc) rfl,kI U,isInt,Uk,h1,h2]
   . simp! [U,hW,aZ (fx:=fc) rfl,kI U,isInt,Uk,h1,h2]
  . simp! [U,hW,aZ (fx:=fc) rfl,kI U,isInt,Uk,h1]
 |_=>simp! [U,hW,aZ (fx:=fc) rfl,kI U,isInt,Uk]
end
def jJ(wi:Nat):Fx:=⟨2,2,[(.ite (.or [(.not (.rH (.slot 1) "tuple")),(.cmp .NotEq (.blt .len [(.slot 1)]) (.val (.int 2)))]) [(.ret (.val (.bl false)))] []),(.ret (.and [(.blt .all [(.comp 2 2 (.nm 3) (.slot 1) none (.call wi [(.slot 3),(.val (.int 0)),(.bin .Sub (.slot 0) (.val (.int 1)))]))]),(.cmp .Lt (.ix (.slot 1) (.val (.int 0))) (.ix (.slot 1) (.val (.int 1))))]))]⟩
def yD:Fx:=⟨1,1,[(.ret (.blt .all [(.comp 1 2 (.nm 2) (.gW (.val (.int 1)) (.blt .len [(.slot 0)])) none (.cmp .Lt (.ix (.slot 0) (.bin .Sub (.slot 2) (.val (.int 1)))) (.ix (.slot 0) (.slot 2))))]))]⟩
def jK(wi it ri:Nat):Fx:=⟨1,3,[(.ite (.or [(.not (.rH (.slot 0) "tuple")),(.cmp .NotEq (.blt .len [(.slot 0)]) (.val (.int 2)))]) [(.ret (.val (.bl false)))] []),(.tgt (.tp [1,2]) (.slot 0)),(.ite (.or [(.not (.call wi [(.slot 1),(.val (.int 1)),(.val (.int 6))])),(.not (.rH (.slot 2) "tuple"))]) [(.ret (.val (.bl false)))] []),(.ret (.and [(.blt .all [(.comp 3 2 (.nm 4) (.slot 2) none (.call it [(.slot 1),(.slot 4)]))]),(.call ri [(.slot 2)])]))]⟩
noncomputable def bx(iw ci:Nat):Fx:=⟨1,1,[(.ite (.not (.call iw [(.slot 0)])) [(.raise ci (.val (.str (PySem.Str.ofString "no web"))))] [])]⟩
noncomputable def W(m:Nat)(ao:List (List Int)):D:=.tup [.int m,.tup (ao.map λx=>~~~x)]
structure Wb(m:Nat)(ao:List (List Int)):Prop where
 tie:∀x∈ao,∃a b:Int,x=[a,b]/\0<=a/\a<b/\b<m
 ris:ao.Pairwise λx y=>HT.lexLt x y=true
 len:ao.length<=15
theorem lW(l:List (List Int)):jc (l.map λx=>~~~x)=true:=by
 induction l with
 |nil=>rfl
 |cons x l ih=>simp[jc,gZ,dH,ih]
theorem lX(l:List (List Int)):deps (l.map λx=>~~~x)<=1:=by
 induction l with
 |nil=>simp[deps]
 |cons x l ih=>simp[deps,dep,gu];lia
theorem rS:∀a b:List (List Int),dh (a.map λx=>~~~x) (b.map λx=>~~~x)=decide (a=b)
 | [],[]=>rfl
 | [],_::_=>rfl
 |_::_,[]=>rfl
 |x::a,y::b=>by
  simp only[List.map_cons,dh,bO,eK,rS a b,List.cons.injEq,Bool.decide_and]
theorem Ul(m m':Nat)(a b:List (List Int)):fP (W m a) (W m' b)=true:=by have:=lX a;simp[fP,W,gZ,jc,lW,dep,deps];lia
theorem YK(m:Nat)(a b:List (List Int)):bO (W m a) (W m b)=decide (a=b):=by simp[W,bO,dh,rS]
section
variable{wh wi it ri iw ci:Nat}(U:uE fns rn)
include U
variable(hW:fns[wh]?=some fc)(hI:fns[wi]?=some (fG wh))
include hW hI
theorem Ic(m:Nat)(a b:Int)(h:0<=a/\a<b/\b<m):cB (rn (n+40)) (k+3) (jJ wi) [.int m,~~~[a,b]]=some (.dat (.bl true)):=by
 have w:=λn k=>zY (rn:=rn (n+24)) (bor:=[]) (k:=k+2) (g:=[.dat (.int m),.dat (~~~[a,b])]) (g1:=[.dat (.int m),.dat (~~~[a,b])]) (kk:=2) (nn:=2) (j:=3) (it:=.slot 1) (e:=.call wi [(.slot 3),(.val (.int 0)),(.bin .Sub (.slot 0) (.val (.int 1)))]) [a,b] .int (λ_=>.bl true) (by simp! [U,eE]) rfl ⋯ ⋯ ⋯ (au _ ⋯) λx hx G' hG=>by
  have h0:G'[0]?=some (.dat (.int m)):=hG.1 0 ⋯;have hx':(0:Int)<=x/\x<=m - 1:=by simp only[d6,nN,A5]at hx;lia
  simp! [U,hG.2,h0,hI,tW (fx:=fG wh) rfl,rR U hW,Uk,hx']
 have e1:[a,b].map (λ_=>D.bl true)=([true,true]).map .bl:=rfl
 have i0:L2.fy ([a,b].map D.int) 0=some (.int a):=rfl;have i1:L2.fy ([a,b].map D.int) 1=some (.int b):=rfl;unfold cB jJ;simp! [U,w,e1,i0,i1,h]
omit hW hI in
theorem Um(m:Nat)(ao:List (List Int))(h:Wb m ao):cB (rn (n+40)) k yD [.tup (ao.map λx=>~~~x)]=some (.dat (.bl true)):=by
 have hl:=h.len;have w:=λn k=>zY (rn:=rn (n+16)) (bor:=[]) (k:=k) (g:=[.dat (.tup (ao.map λx=>~~~x))]) (g1:=[.dat (.tup (ao.map λx=>~~~x))]) (kk:=2) (nn:=1) (j:=2) (it:=.gW (.val (.int 1)) (.blt .len [(.slot 0)])) (e:=.cmp .Lt (.ix (.slot 0) (.bin .Sub (.slot 2) (.val (.int 1)))) (.ix (.slot 0) (.slot 2))) (List.range (ao.length - 1)) (λ(k:Nat)=>.int (1+k:Int)) (λ_=>.bl true) (by
   have e:((ao.length:Int) - 1).toNat=ao.length - 1:=by lia
   simp! [U,eE,aX 1 ⋯,aX (ao.length:Int) ⋯,e,cL]) rfl ⋯ ⋯ ⋯ (au _ (by simp;lia)) λj hj G' hG=>by
  have h0:G'[0]?=some (.dat (.tup (ao.map λx=>~~~x))):=hG.1 0 ⋯
  have hj':=sT.mp hj;have j1:L2.fy (ao.map λx=>~~~x) (1+(j:Int) - 1)=some (~~~(ao[j]'⋯)):=by rw[show (1+(j:Int) - 1)=((j:Nat):Int)by lia,gI _ _ (by simp;lia)];simp
  have j2:L2.fy (ao.map λx=>~~~x) (1+(j:Int))=some (~~~(ao[j+1]'⋯)):=by rw[show (1+(j:Int))=((j+1:Nat):Int)by lia,gI _ _ (by simp;lia)];simp
  have qi:HT.lexLt (ao[j]'⋯) (ao[j+1]'⋯)=true:=List.pairwise_iff_getElem.mp h.ris j (j+1) ⋯ ⋯ ⋯;have hc:ez .Lt (~~~(ao[j]'⋯)) (~~~(ao[j+1]'⋯))=some true:=by simp only[ez,ltF,ints_map,qi]
  simp! [U,hG.2,h0,j1,j2,hc]
 have e1:(List.range (ao.length - 1)).map (λ_=>D.bl true)=((List.range (ao.length - 1)).map λ_=>true).map .bl:=by rw[List.map_map];rfl
 have e2:((List.range (ao.length - 1)).map λ_=>true).all id=true:=by simp
 unfold cB yD;simp! [U,w,e1,e2]
variable(CK:fns[it]?=some (jJ wi))(hR:fns[ri]?=some yD)
include CK hR
theorem Ie(m:Nat)(ao:List (List Int))(hm:1<=m/\m<=6)(h:Wb m ao):cB (rn (n+60)) (k+5) (jK wi it ri) [W m ao]=some (.dat (.bl true)):=by
 have hl:=h.len;have w:=λn k=>zY (rn:=rn (n+50)) (bor:=[]) (k:=k+4) (g:=[.dat (W m ao),.dat (.int m),.dat (.tup (ao.map λx=>~~~x))]) (g1:=[.dat (W m ao),.dat (.int m),.dat (.tup (ao.map λx=>~~~x))]) (kk:=2) (nn:=3) (j:=4) (it:=.slot 2) (e:=.call it [(.slot 1),(.slot 4)]) ao (λx=>~~~x) (λ_=>.bl true) (by simp! [U,eE]) rfl ⋯ ⋯ ⋯ (au _ ⋯) λx hx G' hG=>by
  have h1:G'[1]?=some (.dat (.int m)):=hG.1 1 ⋯;obtain⟨a,b,rfl,hab⟩:=h.tie x hx;simp! [U,hG.2,h1,CK,bU (fx:=jJ wi) rfl,Ic U hW hI m a b hab]
 have e1:ao.map (λ_=>D.bl true)=(ao.map λ_=>true).map .bl:=by rw[List.map_map];rfl
 have e2:(ao.map λ_=>true).all id=true:=by simp
 have q:=λn k=>Um U (n:=n) (k:=k) m ao h
 have ty:fX (qB (W m ao)) "tuple"=true:=rfl;have bl:pC .len [W m ao]=some (.dat (.int 2)):=rfl;have st:∀s1 s2,Tg.set (.tp [1,2]) (W m ao) [.dat (W m ao),s1,s2]=some [.dat (W m ao),.dat (.int m),.dat (.tup (ao.map λx=>~~~x))]:=λ_ _=>rfl
 unfold cB jK;simp! [U,ty,bl,Tg.ix,st,hI,tW (fx:=fG wh) rfl,rR U hW,Uk,(show (1:Int)<=m/\(m:Int)<=6 by lia),w,e1,e2,hR,aZ (fx:=yD) rfl,q]
variable(Vz:fns[iw]?=some (jK wi it ri))
include Vz
theorem jL(m:Nat)(ao:List (List Int))(hm:1<=m/\m<=6)(h:Wb m ao):cB (rn (n+70)) (k+6) (bx iw ci) [W m ao]=some (.dat .non):=by unfold cB bx;simp! [U,Vz,aZ (fx:=jK wi it ri) rfl,Ie U hW hI CK hR m ao hm h]
end
def tm(t:List Int)(x:List Int):List Int:=if gt t (gt x 0)<gt t (gt x 1)then [gt t (gt x 0),gt t (gt x 1)]else [gt t (gt x 1),gt t (gt x 0)]
def tw(t:List Int)(ao:List (List Int)):List (List Int):=bK dF (ao.map (tm t))
theorem bz(a b:Int):gt [a,b] 0=a/\gt [a,b] 1=b:=⟨rfl,rfl⟩
theorem iY(t:List Int)(a b:Int):tm t [a,b]=if gt t a<gt t b then [gt t a,gt t b]else [gt t b,gt t a]:=rfl
def Pr(m:Nat)(x:List Int):Prop:=∃a b:Int,x=[a,b]/\0<=a/\a<b/\b<m
theorem YL{m:Nat}{t:List Int}(h:Tn m t){x:List Int}(hx:Pr m x):Pr m (tm t x):=by
 obtain⟨a,b,rfl,h1,h2,h3⟩:=hx;have ha:=h.lU (i:=a) ⋯;have hb:=h.lU (i:=b) ⋯;have fz:gt t a≠gt t b:=λe=>by have:=h.inj (i:=a) (j:=b) ⋯ ⋯ e;lia
 rw[iY];split
 . exact⟨_,_,rfl,by lia,by lia,by lia⟩
 . exact⟨_,_,rfl,by lia,by lia,by lia⟩
theorem yE{m:Nat}{t:List Int}(h:Tn m t){x y:List Int}(hx:Pr m x)(hy:Pr m y)(e:tm t x=tm t y):x=y:=by
 obtain⟨a,b,rfl,h1,h2,h3⟩:=hx;obtain⟨c,d,rfl,h4,h5,h6⟩:=hy;rw[iY,iY]at e;have i1:∀i j:Int,(0<=i/\i<m)->(0<=j/\j<m)->gt t i=gt t j->i=j:=λi j hi hj e=>h.inj hi hj e
 split at e <;> split at e <;> simp only[List.cons.injEq,and_true]at e
 .
  have:=i1 a c ⋯ ⋯ e.1;have:=i1 b d ⋯ ⋯ e.2
  subst_vars;rfl
 . have:=i1 a d ⋯ ⋯ e.1;have:=i1 b c ⋯ ⋯ e.2;lia
 . have:=i1 b c ⋯ ⋯ e.1;have:=i1 a d ⋯ ⋯ e.2;lia
 .
  have:=i1 b d ⋯ ⋯ e.1;have:=i1 a c ⋯ ⋯ e.2
  subst_vars;rfl
theorem fS{l:List (List Int)}(h:l.Nodup):(bK dF l).Pairwise λx y=>HT.lexLt x y=true:=by
 have h1:=gD (O:=dF) l;have h2:(bK dF l).Nodup:=(cG l).nodup_iff.mpr h;rw[AW]at h2;refine (h1.and h2).imp λ{x y} ⟨q1,q2⟩=>?_
 cases e:HT.lexLt x y with
 |true=>rfl
 |false=>exact absurd (lC x y e q1) q2
theorem Wb.nodup{m:Nat}{ao:List (List Int)}(h:Wb m ao):ao.Nodup:=by rw[AW];exact h.ris.imp λ{x y} q e=>by rw[e,lB]at q;cases q
theorem Wb.turn{m:Nat}{ao:List (List Int)}{t:List Int}(h:Wb m ao)(ht:Tn m t):Wb m (tw t ao):=by
 have hp:=cG (O:=dF) (ao.map (tm t));refine⟨λx hx=>?_,fS (lV h.nodup λx hx y hy e=>yE ht (h.tie x hx) (h.tie y hy) e),?_⟩
 . obtain⟨y,hy,rfl⟩:=i7.mp (hp.mem_iff.mp hx);exact YL ht (h.tie y hy)
 . unfold tw;rw[hp.length_eq,fR];exact h.len
noncomputable def cV(i:Nat):Fx:=⟨2,2,[(.ite (.qI (.slot 1) ["tuple", "list"]) [(.ite (.or [(.cmp .NotEq (.rH (.slot 0) "tuple") (.rH (.slot 1) "tuple")),(.cmp .NotEq (.rH (.slot 0) "list") (.rH (.slot 1) "list"))]) [(.ret (.val (.bl false)))] []),(.ite (.cmp .NotEq (.blt .len [(.slot 0)]) (.blt .len [(.slot 1)])) [(.ret (.val (.bl false)))] []),(.ret (.blt .all [(.comp 2 3 (.tp [3,4]) (.zip (.slot 0) (.slot 1)) none (.call i [(.slot 3),(.slot 4)]))]))] []),(.ret (.and [(.cmp .Eq (.slot 0) (.slot 1)),(.cmp .Eq (.rH (.slot 0) "bool") (.rH (.slot 1) "bool"))]))]⟩
theorem M7{l:List D}{r:Int}(h:0<=r/\r<l.length):∃x∈l,L2.fy l r=some x:=by
 obtain⟨j,rfl⟩:∃j:Nat,r=j:=⟨r.toNat,by lia⟩
 have hj:j<l.length:=by lia
 exact⟨l[j],List.getElem_mem hj,gI l j hj⟩
theorem nR(l m:List D)(h:l.length+m.length<=1000):vD .Add (.lst l) (.lst m)=some (.new (l++m)):=by
 show (if l.length+m.length<=lim then _ else _)=_
 rw[fN (au _ h)]
noncomputable def Sd:Nat->D->Prop
 |_,.int _=>True
 |_,.bl _=>True
 |_,.str _=>True
 |_,.non=>True
 |c+1,.tup l=>l.length<=1000/\∀x∈l,Sd c x
 |c+1,.lst l=>l.length<=1000/\∀x∈l,Sd c x
 |_,_=>False
theorem v5:∀l:List D,sX l l=l.map λa=>D.tup [a,a]
 | []=>rfl
 |a::l=>by
  show D.tup [a,a]::sX l l=_;rw[v5 l];rfl
theorem all_true{α:Type}(l:List α):(l.map λ_=>true).all id=true:=by simp
section
variable(U:uE fns rn)
include U
theorem v7{c:Nat}(hS:fns[i]?=some (cV i))(ih:∀n k d,Sd c d->cB (rn (n+20 * c+20)) (k+c) (cV i) [d,d]=some (.dat (.bl true))){d:D}{l:List D}(hw:∀n k,eE (rn (n+2)) [] k true (.zip (.slot 0) (.slot 1)) [.dat d,.dat d]=some (sX l l,[.dat d,.dat d]))(hl:l.length<=1000)(h:∀x∈l,Sd c x):∀n k,fY (rn (n+20 * c+23)) [] (k+c+1) 2 3 (.tp [3,4]) (.zip (.slot 0) (.slot 1)) none (.call i [(.slot 3),(.slot 4)]) [.dat d,.dat d]=some ((l.map λ_=>true).map .bl,[.dat d,.dat d]):=λn k=>by
 rw[List.map_map];exact yw (rn:=rn (n+20 * c+23)) (bor:=[]) (k:=k+c+1) (g:=[.dat d,.dat d]) (g1:=[.dat d,.dat d]) (kk:=3) (nn:=2) (j1:=3) (j2:=4) l id id _ (by rw[hw (n+20 * c+21)];rw[v5];rfl) rfl ⋯ ⋯ ⋯ ⋯ ⋯ ⋯ ⋯ (au _ hl) λa ha G' hG=>by
  have h1:=hG.2.1;have h2:=hG.2.2;simp only[id]at h1 h2;have q:=ih (n+2) k a (h a ha);rw[show n+2+20 * c+20=n+20 * c+22 by lia]at q
  simp! [U,h1,h2,hS,bU (fx:=cV i) rfl,q]
theorem ud(hS:fns[i]?=some (cV i)):∀(c n k:Nat) (d:D),Sd c d->cB (rn (n+20 * c+20)) (k+c) (cV i) [d,d]=some (.dat (.bl true))
 | 0,n,k,d,h=>by
  cases d with
  |int j=>unfold cB cV;simp! [U,qB,fX,ez,fP,bO,gZ,dep]
  |bl j=>unfold cB cV;simp! [U,qB,fX,ez,fP,bO,gZ,dep]
  |str j=>unfold cB cV;simp! [U,qB,fX,ez,fP,bO,gZ,dep]
  |non=>unfold cB cV;simp! [U,qB,fX,ez,fP,bO,gZ,dep]
  |_=>exact h.elim
 |c+1,n,k,d,h=>by
  have ih:=ud hS c;rw[show n+20 * (c+1)+20=n+20 * c+40 by lia,show k+(c+1)=k+c+1 by lia]
  cases d with
  |int j=>unfold cB cV;simp! [U,qB,fX,ez,fP,bO,gZ,dep]
  |bl j=>unfold cB cV;simp! [U,qB,fX,ez,fP,bO,gZ,dep]
  |str j=>unfold cB cV;simp! [U,qB,fX,ez,fP,bO,gZ,dep]
  |non=>unfold cB cV;simp! [U,qB,fX,ez,fP,bO,gZ,dep]
  |tup l=>
   have w:=v7 U hS ih (d:=.tup l) (l:=l) (λn k=>by simp! [U,eE,cW,isTup]) h.1 h.2
   have w':=w (n+13) k;rw[show n+13+20 * c+23=n+20 * c+36 by lia]at w'
   unfold cB cV;simp! [U,qB,fX,ez,fP,bO,gZ,dep,w',all_true]
  |lst l=>
   have w:=v7 U hS ih (d:=.lst l) (l:=l) (λn k=>by simp! [U,eE,cW,isTup]) h.1 h.2
   have w':=w (n+13) k;rw[show n+13+20 * c+23=n+20 * c+36 by lia]at w'
   unfold cB cV;simp! [U,qB,fX,ez,fP,bO,gZ,dep,w',all_true]
  |_=>exact h.elim
end
def dI:Fx:=⟨2,2,[(.ret (.tup [(.ix (.slot 0) (.val (.int 0))),(.blt .tuple [(.blt .sorted [(.comp 2 3 (.tp [3,4]) (.ix (.slot 0) (.val (.int 1))) none (.blt .tuple [(.blt .sorted [(.lst [(.ix (.slot 1) (.slot 3)),(.ix (.slot 1) (.slot 4))])])]))])])]))]⟩
noncomputable def bV(ti:Nat):Fx:=⟨1,2,[(.set 1 (.lst [(.val .non),(.val (.int 0)),(.tup []),(.tup [(.val (.int 7)),(.tup [])]),(.tup [(.val (.int 0)),(.tup [])]),(.tup [(.neg (.val (.int 1))),(.tup [])]),(.tup [(.val (.bl true)),(.tup [])]),(.tup [(.val (.int 2)),(.lst [])]),(.lst [(.val (.int 2)),(.tup [])]),(.tup [(.val (.int 2)),(.tup [(.tup [(.val (.int 1)),(.val (.int 0))])])]),(.tup [(.val (.int 2)),(.tup [(.tup [(.val (.int 0)),(.val (.int 0))])])]),.emp])),(.set 1 (.bin .Add (.slot 1) (.lst [(.tup [(.val (.int 2)),(.tup [(.tup [(.val (.int 0)),(.val (.int 1))]),(.tup [(.val (.int 0)),(.val (.int 1))])])]),(.tup [(.val (.int 3)),(.tup [(.tup [(.val (.int 0)),(.val (.int 2))]),(.tup [(.val (.int 0)),(.val (.int 1))])])]),(.tup [(.val (.int 2)),(.tup [(.tup [(.val (.int 0)),(.val (.int 2))])])]),(.tup [(.val (.int 2)),(.tup [(.tup [(.val (.int 0)),(.val (.bl true))])])]),(.tup [(.val (.int 2)),(.tup [(.tup [(.val (.int 0)),(.val (.int 1)),(.val (.int 1))])])])]))),(.set 1 (.bin .Add (.slot 1) (.lst [(.tup [(.val (.int 2)),(.tup [(.val (.int 0)),(.val (.int 1))])]),(.tup [(.val (.int 2)),(.val .non)]),(.tup [(.val (.int 2)),(.tup []),(.tup [])]),(.tup [(.val (.int 2))]),(.tup [(.val (.int 2)),(.tup [(.lst [(.val (.int 0)),(.val (.int 1))])])]),(.tup [(.val (.int 2)),(.tup [(.val .non)])]),(.tup [(.val (.str (PySem.Str.ofString "2"))),(.tup [])]),(.val (.str (PySem.Str.ofString "2:")))]))),(.ret (.ix (.slot 1) (.call ti [(.slot 0),(.val (.int 25))])))]⟩
theorem Uo(a b:Int):cZ [a,b]=if a<b then [a,b]else [b,a]:=by
 show (if a<=b then [a,b]else [b,a])=_
 by_cases h:a<b
 . rw[fN ⋯,fN h]
 .
  by_cases e:a=b
  . subst e;rw[fN ⋯,gN h]
  . rw[gN ⋯,gN h]
noncomputable def uf:List D:=[.non,.int 0,.tup [],.tup [.int 7,.tup []],.tup [.int 0,.tup []],.tup [.int (-1),.tup []],.tup [.bl true,.tup []],.tup [.int 2,.lst []],.lst [.int 2,.tup []],.tup [.int 2,.tup [.tup [.int 1,.int 0]]],.tup [.int 2,.tup [.tup [.int 0,.int 0]]],.emp]
noncomputable def ug:List D:=[.tup [.int 2,.tup [.tup [.int 0,.int 1],.tup [.int 0,.int 1]]],.tup [.int 3,.tup [.tup [.int 0,.int 2],.tup [.int 0,.int 1]]],.tup [.int 2,.tup [.tup [.int 0,.int 2]]],.tup [.int 2,.tup [.tup [.int 0,.bl true]]],.tup [.int 2,.tup [.tup [.int 0,.int 1,.int 1]]]]
noncomputable def M8:List D:=[.tup [.int 2,.tup [.int 0,.int 1]],.tup [.int 2,.non],.tup [.int 2,.tup [],.tup []],.tup [.int 2],.tup [.int 2,.tup [.lst [.int 0,.int 1]]],.tup [.int 2,.tup [.non]],.tup [.str (PySem.Str.ofString "2"),.tup []],.str (PySem.Str.ofString "2:")]
def kJ:List D:=uf++ug++M8
section
variable{ti:Nat}(U:uE fns rn)
include U
theorem kK(m:Nat)(ao:List (List Int))(t:List Int)(h:Wb m ao)(ht:Tn m t):cB (rn (n+20)) k dI [W m ao,~~~t]=some (.dat (W m (tw t ao))):=by
 have hl:=h.len;have htl:=ht.length;have i0:vE (W m ao) (.int 0)=some (.int m):=rfl;have i1:vE (W m ao) (.int 1)=some (.tup (ao.map λx=>~~~x)):=rfl
 have w:=λn k=>yw (rn:=rn (n+12)) (bor:=[]) (k:=k) (g:=[.dat (W m ao),.dat (~~~t)]) (g1:=[.dat (W m ao),.dat (~~~t)]) (kk:=3) (nn:=2) (j1:=3) (j2:=4) (it:=.ix (.slot 0) (.val (.int 1))) (e:=.blt .tuple [(.blt .sorted [(.lst [(.ix (.slot 1) (.slot 3)),(.ix (.slot 1) (.slot 4))])])]) ao (λx=>.int (gt x 0)) (λx=>.int (gt x 1)) (λx=>~~~(tm t x)) (by
   have e:ao.map (λx=>~~~x)=ao.map λx=>.tup [.int (gt x 0),.int (gt x 1)]:=sK λx hx=>by
    obtain⟨a,b,rfl,_⟩:=h.tie x hx;rfl
   simp! [U,eE,i1,<- e]) rfl ⋯ ⋯ ⋯ ⋯ ⋯ ⋯ ⋯ (au _ ⋯) λx hx G' hG=>by
  have h1:G'[1]?=some (.dat (~~~t)):=hG.1 1 ⋯;obtain⟨a,b,rfl,h2,h3,h4⟩:=h.tie x hx;have h5:=hG.2.1;have h6:=hG.2.2;rw[(bz a b).1]at h5;rw[(bz a b).2]at h6;have so:pC .sorted [.lst [.int (gt t a),.int (gt t b)]]=some (.new ((tm t [a,b]).map .int)):=by rw[iY,<- Uo];exact mU [gt t a,gt t b] ⋯
  simp! [U,h5,h6,h1,iK (t:=t) (i:=a) ⋯,iK (t:=t) (i:=b) ⋯,so,au 2 ⋯]
 have e1:ao.map (λx=>~~~(tm t x))=(ao.map (tm t)).map λx=>~~~x:=by rw[List.map_map];rfl
 have e2:=eY (ao.map (tm t)) (λx hx=>by obtain⟨y,_,rfl⟩:=i7.mp hx;unfold tm;split <;> simp) (by simp;lia)
 unfold cB dI;simp! [U,i0,w,e1,e2,au 2 ⋯];rfl
variable(hT:fns[ti]?=some bN)
include hT
theorem Dc{i:Nat}{s:Int}{fl:Bool}(hi:g[i]?=some (St s fl)):∃(d:D) (s':Int),d∈kJ/\aU (rn (n+60)) (bV ti) (k+1) [.var i] g=some (.dat d,g.set i (St s' fl)):=by
 have l0:=au 0 ⋯;have l1:=au 1 ⋯;have l2:=au 2 ⋯;have l3:=au 3 ⋯;have e1:aH (rn (n+59)) [0] (k+1) (match (bV ti).body with |s::_=>s | []=>.stuck) [St s fl,.no]=some (.nx,[St s fl,.own uf]):=by unfold bV;simp! [U,l0,l1,l2,l3,au 12 ⋯];rfl
 have e2:aH (rn (n+59)) [0] (k+1) (match (bV ti).body with |_::s::_=>s |_=>.stuck) [St s fl,.own uf]=some (.nx,[St s fl,.own (uf++ug)]):=by have o:=nR uf ug ⋯;have hb:ug=[.tup [.int 2,.tup [.tup [.int 0,.int 1],.tup [.int 0,.int 1]]],.tup [.int 3,.tup [.tup [.int 0,.int 2],.tup [.int 0,.int 1]]],.tup [.int 2,.tup [.tup [.int 0,.int 2]]],.tup [.int 2,.tup [.tup [.int 0,.bl true]]],.tup [.int 2,.tup [.tup [.int 0,.int 1,.int 1]]]]:=rfl;unfold bV;simp! [U,l0,l1,l2,l3,au ug.length ⋯,<- hb,o]
 have e3:aH (rn (n+59)) [0] (k+1) (match (bV ti).body with |_::_::s::_=>s |_=>.stuck) [St s fl,.own (uf++ug)]=some (.nx,[St s fl,.own kJ]):=by have o:=nR (uf++ug) M8 ⋯;have hb:M8=[.tup [.int 2,.tup [.int 0,.int 1]],.tup [.int 2,.non],.tup [.int 2,.tup [],.tup []],.tup [.int 2],.tup [.int 2,.tup [.lst [.int 0,.int 1]]],.tup [.int 2,.tup [.non]],.tup [.str (PySem.Str.ofString "2"),.tup []],.str (PySem.Str.ofString "2:")]:=rfl;unfold bV kJ;simp! [U,l0,l1,l2,l3,au M8.length ⋯,<- hb,o]
 obtain⟨r,s1,r1,r2,q⟩:=dM U (n:=n+37) (k:=k) (g:=[St s fl,.own kJ]) (i:=0) (s:=s) (fl:=fl) (m:=25) rfl ⋯;have q':aU (rn (n+57)) bN k [.var 0,.dat (.int 25)] [St s fl,.own kJ]=some (.dat (.int r),[St s1 fl,.own kJ]):=q;obtain⟨d,hd,ed⟩:=M7 (l:=kJ) (r:=r) ⟨r1,r2⟩;refine⟨d,s1,hd,?_⟩;have e4:aH (rn (n+59)) [0] (k+1) (.ret (.ix (.slot 1) (.call ti [(.slot 0),(.val (.int 25))]))) [St s fl,.own kJ]=some (.rt (.dat d),[St s1 fl,.own kJ]):=by simp! [U,hT,q',ed]
 have body:(rn (n+60)).b [0] (k+1) (bV ti).body [St s fl,.no]=some (.rt (.dat d),[St s1 fl,.own kJ]):=by
  unfold bV at e1 e2 e3 ⊢
  rw[U.b,aG e1,aG e2,aG e3];unfold fE;rw[e4]
 have hp:dz (bV ti).n [St s fl]=[St s fl,.no]:=rfl;unfold aU;simp only[vars,cu,hi,List.map_cons,List.map_nil];rw[fN ⟨rfl,by simp⟩,hp,body]
 rfl
end
noncomputable def yF(i j:Int):List Int:=if i<j then [i,j]else [j,i]
theorem iL{i j:Int}(h:i≠j):yF i j=yF j i:=by unfold yF;split <;> split <;> first |rfl |lia
theorem yG(t:List Int)(a b:Int):tm t [a,b]=yF (gt t a) (gt t b):=iY t a b
theorem jM{i j:Int}(h:i<j):yF i j=[i,j]:=fN h
theorem Up{m:Nat}{i j:Int}(hi:0<=i/\i<m)(hj:0<=j/\j<m)(h:i≠j):Pr m (yF i j):=by
 unfold yF;split
 . exact⟨_,_,rfl,by lia,by lia,by lia⟩
 . exact⟨_,_,rfl,by lia,by lia,by lia⟩
theorem z5{m:Nat}{t:List Int}(ht:Tn m t){i j:Int}(hi:0<=i/\i<m)(hj:0<=j/\j<m)(h:i≠j):tm t (yF i j)=yF (gt t i) (gt t j):=by
 by_cases hl:i<j
 . rw[jM hl,yG]
 . rw[iL h,jM (show j<i by lia),yG,iL λe=>h (ht.inj hj hi e).symm]
def Uq(i:Int)(x:List Int):Option Int:=if gt x 0=i then some (gt x 1)else if gt x 1=i then some (gt x 0)else none
def nb(i:Int)(ao:List (List Int)):List Int:=ao.filterMap (Uq i)
noncomputable def has(i:Int)(x:List Int):Bool:=decide (gt x 0=i)||decide (gt x 1=i)
theorem Ig(i:Int)(ao:List (List Int)):(nb i ao).length=ao.countP (has i):=by
 induction ao with
 |nil=>rfl
 |cons x l ih=>
  unfold nb at ih ⊢
  rw[l8,List.countP_cons];by_cases h1:gt x 0=i
  . simp[Uq,has,h1,ih]
  .
   by_cases h2:gt x 1=i
   . simp[Uq,has,h1,h2,ih]
   . simp[Uq,has,h1,h2,ih]
theorem uh{m:Nat}{ao:List (List Int)}(h:Wb m ao)(i y:Int):y∈nb i ao ↔ yF i y∈ao:=by
 unfold nb;rw[BC];constructor
 .
  rintro⟨x,hx,e⟩;obtain⟨a,b,rfl,h1,h2,h3⟩:=h.tie x hx;unfold Uq at e;rw[(bz a b).1,(bz a b).2]at e;split at e
  . rename_i q;cases e;subst q;rw[jM h2];exact hx
  .
   split at e
   . rename_i q;cases e;subst q;rw[iL ⋯,jM h2];exact hx
   . cases e
 .
  intro hx;refine⟨_,hx,?_⟩;unfold yF at hx ⊢
  unfold Uq;split
  . rw[(bz i y).1,(bz i y).2,fN rfl]
  . rename_i q;rw[gN q]at hx;obtain⟨a,b,e,h1,h2,h3⟩:=h.tie _ hx;injection e with e1 e2;injection e2 with e2 _;subst e1 e2;rw[(bz y i).1,(bz y i).2,gN ⋯,fN rfl]
noncomputable def M9(r h t:List Int):Bool:=decide (h.length=t.length)&&r.zipIdx.all λp=>decide ((p.2:Int)∈h)==decide (p.1∈t)
def um(ao aB:List (List Int))(r:List Int)(x:Int):Bool:=M9 r (nb (r.length:Int) ao) (nb x aB)
def good(ao aB:List (List Int))(t:List Int):Bool:=(List.range t.length).all λi=>um ao aB (t.take i) (t.getD i 0)
theorem Dd(ao aB:List (List Int))(r:List Int)(x:Int):good ao aB (r++[x])=(good ao aB r&&um ao aB r x):=by
 unfold good;rw[eR,t8,List.range_succ,List.all_append]
 congr 1
 .
  rw[BI,hZ,hZ];refine forall_congr' λi=>forall_congr' λhi=>?_
  have hi:=sT.mp hi;rw[List.take_append_of_le_length ⋯,l9,l9,dL hi]
 . simp[l9]
def ext(m:Nat)(l:List (List Int)):List (List Int):=l.flatMap λr=>((nums m).filter λx=>!decide (x∈r)).map λx=>r++[x]
def bf(m:Nat):Nat->List (List Int)
 | 0=>[[]]
 |s+1=>ext m (bf m s)
def turnsOf(m:Nat):List (List Int):=bf m m
def Ih(m:Nat)(ao aB:List (List Int))(l:List (List Int)):List (List Int):=l.flatMap λr=>((nums m).filter λx=>!decide (x∈r)&&um ao aB r x).map λx=>r++[x]
theorem v8(m:Nat)(ao aB:List (List Int))(l:List (List Int)):Ih m ao aB (l.filter (good ao aB))=(ext m l).filter (good ao aB):=by
 induction l with
 |nil=>rfl
 |cons r l ih=>
  unfold Ih ext at ih ⊢
  rw[AU,List.filter_append,<- ih,A6];have e:(((nums m).filter λx=>!decide (x∈r)).map λx=>r++[x]).filter (good ao aB)=if good ao aB r=true then ((nums m).filter λx=>!decide (x∈r)&&um ao aB r x).map λx=>r++[x]else []:=by
   rw[List.filter_map];have:(good ao aB ∘ λx=>r++[x])=λx=>good ao aB r&&um ao aB r x:=funext λx=>Dd ao aB r x
   rw[this,List.filter_filter];split
   .
    rename_i h
    congr 1
    refine List.filter_congr λx _=>?_
    rw[h,Bool.true_and,Bool.and_comm]
   .
    rename_i h;have hf:good ao aB r=false:=by simpa using h
    rw[List.map_eq_nil_iff,List.filter_eq_nil_iff];intro x _;rw[hf];simp
  rw[e];split
  . rw[AU]
  . rfl
theorem iM(m:Nat):∀s,(bf m s).length<=m ^ s
 | 0=>dS 1
 |s+1=>by
  have ih:=iM m s;have:∀l:List (List Int),(ext m l).length<=l.length * m:=λl=>by
   induction l with
   |nil=>simp[ext]
   |cons r l ih=>
    unfold ext at ih ⊢
    rw[AU,eR,fR,l6,CH];have:=u7 (λx=>!decide (x∈r)) (nums m)
    rw[eZ]at this;lia
  exact i5 (this _) (Nat.mul_le_mul_right m ih)
def OJ(m:Nat):Bool:=(turnsOf m).all (λt=>decide (cZ t=nums m))&&decide ((turnsOf m).length<=720)
theorem okT1:OJ 1=true:=by decide +kernel
theorem okT2:OJ 2=true:=by decide +kernel
theorem okT3:OJ 3=true:=by decide +kernel
theorem okT4:OJ 4=true:=by decide +kernel
theorem okT5:OJ 5=true:=by decide +kernel
theorem okT6:OJ 6=true:=by decide +kernel
theorem p7{m:Nat}(hm:1<=m/\m<=6):(∀t∈turnsOf m,Tn m t)/\(turnsOf m).length<=720:=by
 have k:OJ m=true:=by
  obtain⟨h1,h2⟩:=hm
  match m,h1,h2 with
  | 1,_,_=>exact okT1
  | 2,_,_=>exact okT2
  | 3,_,_=>exact okT3
  | 4,_,_=>exact okT4
  | 5,_,_=>exact okT5
  | 6,_,_=>exact okT6
 unfold OJ at k;simp only[eC,hZ,hU]at k;exact⟨λt ht=>k.1 t ht,k.2⟩
theorem Ii{m:Nat}{ao aB:List (List Int)}{t:List Int}(h:Wb m ao)(h':Wb m aB)(ht:Tn m t):good ao aB t=true ↔ tw t ao=aB:=by
 have hl:=ht.length;have g1:good ao aB t=true ↔ ∀i:Nat,i<m->((nb (i:Int) ao).length=(nb (gt t i) aB).length/\∀j:Nat,j<i->((j:Int)∈nb (i:Int) ao ↔ gt t j∈nb (gt t i) aB)):=by
  unfold good um M9;simp only[hZ,sT,hl,eC,hU];refine forall_congr' λi=>forall_congr' λhi=>?_
  have e1:(t.take i).length=i:=by rw[wE];lia
  have e2:t.getD i 0=gt t i:=by simp[gt]
  rw[e1,e2];refine and_congr Iff.rfl ⟨λq j hj=>?_,λq p hp=>?_⟩
  .
   have hjl:j<t.length:=by lia
   have:=q (t[j],j) (by rw[List.mem_zipIdx_iff_getElem?];simp[hj,hjl])
   have e3:gt t j=t[j]:=by simp[gt,hjl]
   rw[e3];simpa using this
  .
   obtain⟨y,j⟩:=p;rw[List.mem_zipIdx_iff_getElem?]at hp;rw[List.getElem?_take]at hp;split at hp
   .
    rename_i hj;have hjl:j<t.length:=by lia
    have e3:gt t j=t[j]:=by simp[gt,hjl]
    rw[oC hjl]at hp;cases hp;have:=q j hj;rw[e3]at this;simpa using this
   . cases hp
 rw[g1];have hp:=cG (O:=dF) (ao.map (tm t));constructor
 .
  intro q;have key:∀i j:Int,(0<=i/\i<m)->(0<=j/\j<m)->i≠j->(yF i j∈ao ↔ yF (gt t i) (gt t j)∈aB):=λi j hi hj fz=>by
   have lt:∀i j:Int,(0<=i/\i<m)->(0<=j/\j<m)->j<i->(yF i j∈ao ↔ yF (gt t i) (gt t j)∈aB):=λi j hi hj qi=>by
    have:=(q i.toNat ⋯).2 j.toNat ⋯;rw[Int.toNat_of_nonneg hi.1,Int.toNat_of_nonneg hj.1,uh h,uh h']at this;exact this
   rcases Int.lt_or_gt_of_ne fz with qi |qi
   .
    rw[iL fz,iL λe=>fz (ht.inj hi hj e)]
    exact lt j i hj hi qi
   . exact lt i j hi hj qi
  refine (pg (List.Perm.symm ?_) (h'.ris.imp λ{x y} q=>jO.le_of_lt (O:=dF) q)).symm
  refine (List.perm_ext_iff_of_nodup (lV h.nodup λx hx y hy e=>yE ht (h.tie x hx) (h.tie y hy) e) h'.nodup).mpr λx=>?_
  rw[i7];constructor
  .
   rintro⟨y,hy,rfl⟩;obtain⟨a,b,rfl,h1,h2,h3⟩:=h.tie y hy;have:=(key a b ⋯ ⋯ ⋯).mp (by rw[jM h2];exact hy)
   rw[yG];exact this
  .
   intro hx;obtain⟨c,d,rfl,h1,h2,h3⟩:=h'.tie x hx;have YM:∀c:Int,0<=c/\c<m->∃a:Int,(0<=a/\a<m)/\gt t a=c:=λc hc=>by
    obtain⟨j,hj,e⟩:=List.getElem_of_mem (ht.mem.mpr hc);exact⟨j,by lia,by simp[gt,hj,e]⟩
   obtain⟨a,ha,rfl⟩:=YM c ⋯;obtain⟨b,hb,rfl⟩:=YM d ⋯;have fz:a≠b:=λe=>by rw[e]at h2;lia
   have:=(key a b ha hb fz).mpr (by rw[jM h2];exact hx)
   exact⟨_,this,by rw[z5 ht ha hb fz,jM h2]⟩
 .
  rintro rfl i hi;have hi':0<=(i:Int)/\(i:Int)<m:=by lia
  constructor
  .
   rw[Ig,Ig];unfold tw;rw[hp.countP_eq,List.countP_map];refine (List.countP_congr λx hx=>?_)
   obtain⟨a,b,rfl,h1,h2,h3⟩:=h.tie x hx;have inj:∀j:Int,0<=j/\j<m->(gt t j=gt t i ↔ j=i):=λj hj=>⟨λe=>ht.inj hj hi' e,λe=>by rw[e]⟩
   show has i [a,b]=true ↔ has (gt t i) (tm t [a,b])=true;rw[iY];unfold has;have ia:=inj a ⋯;have ib:=inj b ⋯;split
   . rw[(bz a b).1,(bz a b).2,(bz (gt t a) (gt t b)).1,(bz (gt t a) (gt t b)).2];simp[ia,ib]
   . rw[(bz a b).1,(bz a b).2,(bz (gt t b) (gt t a)).1,(bz (gt t b) (gt t a)).2];simp[ia,ib];exact Or.comm
  .
   intro j hj;have hj':0<=(j:Int)/\(j:Int)<m:=by lia
   have fz:(i:Int)≠j:=by lia
   rw[uh h,uh h',<- z5 ht hi' hj' fz];unfold tw;rw[hp.mem_iff,i7];constructor
   . intro hx;exact⟨_,hx,rfl⟩
   . rintro⟨y,hy,e⟩;rw[<- yE ht (h.tie y hy) (Up hi' hj' fz) e];exact hy
section
theorem p8{α:Type}{T:Tg}{last kk:Nat}{c:Option Ex}{e:Ex}(cC:α->D)(f:α->D)(p:α->Bool)(st:α->G->G)(I:G->Prop)(hI:∀m,I m->m.length=kk)(cK:last=g.length+kk)(bY:∀d m,I m->I (st d m)) :
  ∀(aj:List α) (m:G) (acc:List D),I m->acc.length+aj.length<=lim->
  (∀d∈aj,∀m acc,I m->T.set (cC d) (gM g m acc)=some (gM g (st d m) acc))->
  (∀d∈aj,∀m acc,I m->qo rn bor k c (gM g (st d m) acc)=some (p d,gM g (st d m) acc))->
  (∀d∈aj,p d=true->∀m acc,I m->eX rn bor k e (gM g (st d m) acc)=some (f d,gM g (st d m) acc))->
  ∃m',I m'/\x8 rn bor k T last c e (aj.map cC) (gM g m acc)=some (gM g m' (acc++(aj.filter p).map f))
 | [],m,acc,hm,_,_,_,_=>⟨m,hm,by simp[x8]⟩
 |d::aj,m,acc,hm,hl,hT,hi,he=>by
  rw[l6]at hl;have q1:=hT d dA m acc hm;have q2:=hi d dA m acc hm;have hm':=bY d m hm;have hk:=hI _ hm';rw[List.map_cons];unfold x8;rw[q1];dsimp only;rw[q2];cases hp:p d with
  |false=>
   dsimp only;obtain⟨m',w1,w2⟩:=p8 cC f p st I hI cK bY aj (st d m) acc hm' ⋯ (λx hx=>hT x (a9 _ hx)) (λx hx=>hi x (a9 _ hx)) (λx hx=>he x (a9 _ hx))
   exact⟨m',w1,by rw[w2,A6,hp];rfl⟩
  |true=>
   have q3:=he d dA hp m acc hm;dsimp only;rw[q3];dsimp only;have q4:(gM g (st d m) acc)[last]?=some (.own acc):=by rw[cK,<- hk];exact iX
   rw[q4];dsimp only;rw[fN ⋯];have q5:(gM g (st d m) acc).set last (.own (acc++[f d]))=gM g (st d m) (acc++[f d]):=by rw[cK,<- hk];exact iJ
   rw[q5];obtain⟨m',w1,w2⟩:=p8 cC f p st I hI cK bY aj (st d m) (acc++[f d]) hm' (by rw[eR,t8];lia) (λx hx=>hT x (a9 _ hx)) (λx hx=>hi x (a9 _ hx)) (λx hx=>he x (a9 _ hx))
   refine⟨m',w1,?_⟩;rw[w2,A6,hp];simp
theorem v9{α β:Type}{kk nn j1 j2 last:Nat}{it:Ex}{c:Option Ex}{e:Ex}(bI:α->D)(ys:List β)(cH:β->D)(p:α->β->Bool)(f:α->β->D)(hn:nn=g.length)(cK:last=g.length+kk)(h11:g.length<=j1)(h12:j1<g.length+kk)(h21:g.length<=j2)(h22:j2<g.length+kk)(fz:j1≠j2) :
  ∀(xs:List α) (m:G) (acc:List D),m.length=kk->acc.length+xs.length * ys.length<=lim->
  (∀a∈xs,∀G',yu g j1 (bI a) G'->eE rn bor k false it G'=some (ys.map cH,G'))->
  (∀a∈xs,∀b∈ys,∀G',kB g j1 j2 (bI a) (cH b) G'->qo rn bor k c G'=some (p a b,G'))->
  (∀a∈xs,∀b∈ys,p a b=true->∀G',kB g j1 j2 (bI a) (cH b) G'->eX rn bor k e G'=some (f a b,G'))->
  ∃m',m'.length=kk/\vH rn bor k (.nm j1) none (.nm j2) it c e last (xs.map bI) (gM g m acc)=some (gM g m' (acc++xs.flatMap λa=>(ys.filter (p a)).map (f a)))
 | [],m,acc,hm,_,_,_,_=>⟨m,hm,by simp[vH]⟩
 |a::xs,m,acc,hm,hl,hw,hi,he=>by
  rw[l6,CH]at hl;have q1:(Tg.nm j1).set (bI a) (gM g m acc)=some (gM g (m.set (j1 - g.length) (.dat (bI a))) acc):=tV (kk:=kk) h11 ⋯;have hm1:(m.set (j1 - g.length) (.dat (bI a))).length=kk:=by simpa using hm
  have sees:∀(m:G) (acc:List D),m.length=kk->m[j1 - g.length]?=some (.dat (bI a))->yu g j1 (bI a) (gM g m acc):=λm acc hm hg=>by
   refine⟨λi hi=>lQ hi,?_⟩
   have:=dG (g:=g) (m:=m) (acc:=acc) (i:=j1 - g.length) ⋯;rw[show g.length+(j1 - g.length)=j1 by lia]at this
   rw[this,hg]
  have xu:(m.set (j1 - g.length) (.dat (bI a)))[j1 - g.length]?=some (.dat (bI a)):=by rw[fI ⋯]
  have q2:=hw a dA _ (sees _ acc hm1 xu);have O1:∀(b:β) (m:G) (acc:List D),(m.length=kk/\m[j1 - g.length]?=some (.dat (bI a)))->kB g j1 j2 (bI a) (cH b) (gM g (m.set (j2 - g.length) (.dat (cH b))) acc):=λb m acc hm=>by
   obtain⟨s1,s2⟩:=sees (m.set (j2 - g.length) (.dat (cH b))) acc (by simpa using hm.1) (by rw[eM ⋯];exact hm.2)
   refine⟨s1,s2,?_⟩;have:=dG (g:=g) (m:=m.set (j2 - g.length) (.dat (cH b))) (acc:=acc) (i:=j2 - g.length) (by rw[pV,hm.1];lia)
   rw[show g.length+(j2 - g.length)=j2 by lia]at this
   rw[this,fI (by rw[hm.1];lia)]
  obtain⟨m2,w1,w2⟩:=p8 (rn:=rn) (bor:=bor) (k:=k) (g:=g) (T:=.nm j2) (last:=last) (kk:=kk) (c:=c) (e:=e) cH (f a) (p a) (λb m=>m.set (j2 - g.length) (.dat (cH b))) (λm=>m.length=kk/\m[j1 - g.length]?=some (.dat (bI a))) (λ_ h=>h.1) cK (λb m h=>⟨by simpa using h.1,by rw[eM ⋯];exact h.2⟩) ys (m.set (j1 - g.length) (.dat (bI a))) acc ⟨hm1,xu⟩ ⋯
   (λb _ m acc h=>tV (kk:=kk) h21 (by have:=h.1;lia)) (λb hb m acc h=>hi a dA b hb _ (O1 b m acc h)) λb hb hp m acc h=>he a dA b hb hp _ (O1 b m acc h)
  have hf:=u7 (p a) ys;obtain⟨m3,v1,v2⟩:=v9 bI ys cH p f hn cK h11 h12 h21 h22 fz xs m2 (acc++(ys.filter (p a)).map (f a)) w1.1 (by rw[eR,fR];lia) (λx hx=>hw x (a9 _ hx)) (λx hx=>hi x (a9 _ hx)) (λx hx=>he x (a9 _ hx))
  refine⟨m3,v1,?_⟩;rw[List.map_cons];unfold vH;rw[q1];dsimp only[qo,Tg.gH];rw[q2];dsimp only;rw[w2];dsimp only;rw[v2,AU,AT]
theorem Ur{α β:Type}{kk nn j1 j2:Nat}{nq it:Ex}{c:Option Ex}{e:Ex}(xs:List α)(bI:α->D)(ys:List β)(cH:β->D)(p:α->β->Bool)(f:α->β->D)(hw1:eE rn bor k false nq g=some (xs.map bI,g1))(hn:nn=g1.length)(h11:g1.length<=j1)(h12:j1<g1.length+kk)(h21:g1.length<=j2)(h22:j2<g1.length+kk)(fz:j1≠j2)(hb1:j1∉bor)(hb2:j2∉bor)(hl:xs.length * ys.length<=lim)
  (hw:∀a∈xs,∀G',yu g1 j1 (bI a) G'->eE rn bor k false it G'=some (ys.map cH,G'))
  (hi:∀a∈xs,∀b∈ys,∀G',kB g1 j1 j2 (bI a) (cH b) G'->qo rn bor k c G'=some (p a b,G'))
  (he:∀a∈xs,∀b∈ys,p a b=true->∀G',kB g1 j1 j2 (bI a) (cH b) G'->eX rn bor k e G'=some (f a b,G')) :
  lK rn bor k nn kk (.nm j1) nq none (.nm j2) it c e g=some (xs.flatMap λa=>(ys.filter (p a)).map (f a),g1):=by
 subst hn;obtain⟨m',w1,w2⟩:=v9 (rn:=rn) (bor:=bor) (k:=k) (g:=g1) (it:=it) (c:=c) (e:=e) (last:=g1.length+kk) bI ys cH p f rfl rfl h11 h12 h21 h22 fz xs (List.replicate kk .no) [] ⋯ (by simpa using hl) hw hi he
 unfold lK;rw[show Tg.gH (.nm j1)=false from rfl,hw1]
 dsimp only;rw[fN ⟨rfl,by simp[Tg.ix,hb1,hb2]⟩,HN,w2]
 dsimp only;have:∀acc,(gM g1 m' acc)[g1.length+kk]?=some (.own acc):=λacc=>by rw[<- w1];exact iX
 rw[this];dsimp only;rw[tT,AD]
end
theorem qN{m:Nat}(F:Nat->List Int)(a:Nat)(v:List Int):((List.range m).map λi=>(F i).map D.int).set a (v.map .int)=(List.range m).map λi=>(if i=a then v else F i).map D.int:=by
 refine List.ext_getElem ⋯ λi h1 h2=>?_
 rw[List.getElem_set];simp only[List.getElem_map,List.getElem_range];by_cases h:a=i
 . subst h;simp
 . rw[gN h,gN λe=>h e.symm]
theorem wc{m:Nat}:∀(ao:List (List Int)) (F:Nat->List Int) (c:Nat),(∀x∈ao,Pr m x)->(∀i,(F i).length<=c)->c+ao.length<=900->
  iE (ao.map λx=>~~~x) ((List.range m).map λi=>(F i).map D.int)=some ((List.range m).map λi=>(F i++nb (i:Int) ao).map D.int)
 | [],F,c,_,_,_=>by simp[iE,nb]
 |x::ao,F,c,hx,hF,hc=>by
  obtain⟨a,b,rfl,h1,h2,h3⟩:=hx x dA;obtain⟨a,rfl⟩:∃n:Nat,a=n:=⟨a.toNat,by lia⟩
  obtain⟨b,rfl⟩:∃n:Nat,b=n:=⟨b.toNat,by lia⟩
  rw[l6]at hc;have ga:((List.range m).map λi=>(F i).map D.int)[a]?=some ((F a).map D.int):=by rw[oP,Co ⋯];rfl
  have la:((F a).map D.int).length<1000:=by rw[fR];have:=hF a;lia
  have e1:(F a).map D.int++[.int b]=(F a++[(b:Int)]).map D.int:=by rw[tP];rfl
  have gb:((List.range m).map λi=>(if i=a then F a++[(b:Int)]else F i).map D.int)[b]?=some ((F b).map D.int):=by rw[oP,Co ⋯];simp only[BF];rw[gN ⋯]
  have lb:((F b).map D.int).length<1000:=by rw[fR];have:=hF b;lia
  have e2:(F b).map D.int++[.int a]=(F b++[(a:Int)]).map D.int:=by rw[tP];rfl
  have q:vC ((List.range m).map λi=>(F i).map D.int) (.tup [.int a,.int b])=some ((List.range m).map λi=>(if i=b then F b++[(a:Int)]else if i=a then F a++[(b:Int)]else F i).map D.int):=by
   unfold vC;dsimp only;rw[fN (show (0:Int)<=a/\(0:Int)<=b by lia)]
   simp only[pE,ga,la,wS,e1,qN,gb,lb,e2]
  have ih:=wc ao (λi=>if i=b then F b++[(a:Int)]else if i=a then F a++[(b:Int)]else F i) (c+1) (λx hx'=>hx x (a9 _ hx')) (λi=>by
   show (if i=b then F b++[(a:Int)]else if i=a then F a++[(b:Int)]else F i).length<=c+1
   have:=hF a;have:=hF b;have:=hF i;split
   . simp;lia
   .
    split
    . simp;lia
    .
     lia) ⋯
  have e3:List.map (λx=>~~~x) ([(a:Int),(b:Int)]::ao)=.tup [.int a,.int b]::ao.map λx=>~~~x:=rfl
  rw[e3];unfold iE;rw[q];dsimp only;rw[ih]
  congr 1
  refine sK λi hi=>?_
  congr 1
  unfold nb;rw[l8];unfold Uq;rw[(bz (a:Int) b).1,(bz (a:Int) b).2];by_cases q1:i=a
  . subst q1;rw[gN ⋯,fN rfl,fN rfl];simp
  .
   by_cases q2:i=b
   . subst q2;rw[fN rfl,gN ⋯,fN rfl];simp
   . rw[gN q2,gN q1,gN ⋯,gN ⋯]
noncomputable def p9:Fx:=⟨2,5,[(.rows 0 1 2 3 4)]⟩
noncomputable def qa:Fx:=⟨3,3,[(.ite (.cmp .NotEq (.blt .len [(.slot 1)]) (.blt .len [(.slot 2)])) [(.ret (.val (.bl false)))] []),(.ret (.blt .all [(.comp 3 3 (.tp [4,5]) (.enum (.slot 0)) none (.cmp .Eq (.cmp .In (.slot 4) (.slot 1)) (.cmp .In (.slot 5) (.slot 2))))]))]⟩
noncomputable def fh(ro fi:Nat):Fx:=⟨2,7,[(.set 2 (.ix (.slot 0) (.val (.int 0)))),(.set 3 (.call ro [(.slot 2),(.ix (.slot 0) (.val (.int 1)))])),(.set 4 (.call ro [(.slot 2),(.ix (.slot 1) (.val (.int 1)))])),(.set 5 (.lst [(.tup [])])),(.loop (.nm 6) (.cR (.slot 2)) [(.setC 5 (.cz 7 3 (.nm 8) (.slot 5) none (.nm 9) (.cR (.slot 2)) (some (.and [(.cmp .NotIn (.slot 9) (.slot 8)),(.call fi [(.slot 8),(.ix (.slot 3) (.slot 6)),(.ix (.slot 4) (.slot 9))])])) (.bin .Add (.slot 8) (.tup [(.slot 9)]))))]),(.ret (.slot 5))]⟩
def Rw(m:Nat)(ao:List (List Int)):D:=.lst ((List.range m).map λ(i:Nat)=>.lst ((nb (i:Int) ao).map .int))
section
variable{ro fi:Nat}(U:uE fns rn)
include U
theorem z6(m:Nat)(hm:m<=6)(ao:List (List Int))(h:Wb m ao):cB (rn (n+5)) k p9 [.int m,.tup (ao.map λx=>~~~x)]=some (.dat (Rw m ao)):=by
 have q:=wc (m:=m) ao (λ_=>[]) 0 h.tie (λ_=>dS 0) (by have:=h.len;lia)
 have e:(List.range m).map (λi=>List.map D.int ((λ_=>[]) i:List Int))=List.replicate m []:=by rw[List.eq_replicate_iff];simp
 rw[e]at q;have h0:(0:Int)<=m/\(m:Int)<=1000:=by lia
 unfold cB p9;simp! [U,q,h0];unfold Rw;rw[List.map_map];simp
omit U in
theorem Us(x:Int)(l:List Int):ez .In (.int x) (.lst (l.map .int))=some (decide (x∈l)):=by
 have h:nu (.int x) (l.map .int)=true:=by simp[nu,gZ,dH,gu]
 simp only[ez,cW,h,wS]
 congr 1
 rw[BI];simp[bO]
omit U in
theorem lY(x:Int)(l:List Int):ez .NotIn (.int x) (~~~l)=some (!decide (x∈l)):=by
 have h:nu (.int x) (l.map .int)=true:=by simp[nu,gZ,dH,gu]
 simp only[ez,cW,h,wS]
 congr 2
 rw[BI];simp[bO]
omit U in
theorem Ut(a b:Bool):ez .Eq (.bl a) (.bl b)=some (a==b):=rfl
omit U in
theorem De:∀(l:List Int) ,mO (l.map .int)=l.zipIdx.map λp=>.tup [.int (p.2:Int),.int p.1]:=by intro l;unfold mO;rw[List.zipIdx_map,List.map_map];rfl
theorem Nb(r h t:List Int)(hr:r.length<=1000):cB (rn (n+20)) k qa [~~~r,.lst (h.map .int),.lst (t.map .int)]=some (.dat (.bl (M9 r h t))):=by
 have w:=λn k=>yw (rn:=rn (n+10)) (bor:=[]) (k:=k) (g:=[.dat (~~~r),.dat (.lst (h.map .int)),.dat (.lst (t.map .int))]) (g1:=[.dat (~~~r),.dat (.lst (h.map .int)),.dat (.lst (t.map .int))]) (kk:=3) (nn:=3) (j1:=4) (j2:=5) (it:=.enum (.slot 0)) (e:=.cmp .Eq (.cmp .In (.slot 4) (.slot 1)) (.cmp .In (.slot 5) (.slot 2))) r.zipIdx (λp=>.int (p.2:Int)) (λp=>.int p.1) (λp=>.bl (decide ((p.2:Int)∈h)==decide (p.1∈t))) (by simp! [U,eE,cW,De]) rfl ⋯ ⋯ ⋯ ⋯ ⋯ ⋯ ⋯ (au _ (by simpa using hr)) λp hp G' hG=>by
  have h1:G'[1]?=some (.dat (.lst (h.map .int))):=hG.1 1 ⋯;have h2:G'[2]?=some (.dat (.lst (t.map .int))):=hG.1 2 ⋯;simp! [U,hG.2.1,hG.2.2,h1,h2,Us,Ut]
 have e1:r.zipIdx.map (λp=>D.bl (decide ((p.2:Int)∈h)==decide (p.1∈t)))=(r.zipIdx.map λp=>decide ((p.2:Int)∈h)==decide (p.1∈t)).map .bl:=by rw[List.map_map];rfl
 have e2:(r.zipIdx.map λp=>decide ((p.2:Int)∈h)==decide (p.1∈t)).all id=r.zipIdx.all λp=>decide ((p.2:Int)∈h)==decide (p.1∈t):=by rw[List.all_map];rfl
 unfold cB qa M9;by_cases hl:h.length=t.length
 . simp! [U,w,e1,e2,hl]
 .
  have hl' : ¬ (h.length:Int)=t.length:=by lia
  simp! [U,hl,hl']
variable(hR:fns[ro]?=some p9)(hF:fns[fi]?=some qa)
include hR hF
theorem YQ(m s:Nat)(hm:m<=6)(hs:s<m)(ao aB:List (List Int))(l:List (List Int))(hl:l.length<=50000)(hr:∀r∈l,r.length=s)(d0 d1:D):aH (rn (n+40)) [] (k+1) (.setC 5 (.cz 7 3 (.nm 8) (.slot 5) none (.nm 9) (.cR (.slot 2)) (some (.and [(.cmp .NotIn (.slot 9) (.slot 8)),(.call fi [(.slot 8),(.ix (.slot 3) (.slot 6)),(.ix (.slot 4) (.slot 9))])])) (.bin .Add (.slot 8) (.tup [(.slot 9)])))) [.dat d0,.dat d1,.dat (.int m),.dat (Rw m ao),.dat (Rw m aB),.own (l.map λr=>~~~r),.dat (.int s)]=some (.nx,[.dat d0,.dat d1,.dat (.int m),.dat (Rw m ao),.dat (Rw m aB),.own ((Ih m ao aB l).map λr=>~~~r),.dat (.int s)]):=by
 have hg:cL 0 m=(nums m).map .int:=kD m;have w:=Ur (rn:=rn (n+40)) (bor:=[]) (k:=k+1) (g:=[.dat d0,.dat d1,.dat (.int m),.dat (Rw m ao),.dat (Rw m aB),.own (l.map λr=>~~~r),.dat (.int s)]) (g1:=[.dat d0,.dat d1,.dat (.int m),.dat (Rw m ao),.dat (Rw m aB),.dat (.lst (l.map λr=>~~~r)),.dat (.int s)]) (nn:=7) (kk:=3) (j1:=8) (j2:=9) (nq:=.slot 5) (it:=.cR (.slot 2)) (c:=some (.and [(.cmp .NotIn (.slot 9) (.slot 8)),(.call fi [(.slot 8),(.ix (.slot 3) (.slot 6)),(.ix (.slot 4) (.slot 9))])])) (e:=.bin .Add (.slot 8) (.tup [(.slot 9)])) l (λr=>~~~r) (nums m) .int (λr x=>!decide (x∈r)&&um ao aB r x) (λr x=>~~~(r++[x])) (by simp! [U,eE]) rfl ⋯ ⋯ ⋯ ⋯ ⋯ ⋯ ⋯ (by
   rw[eZ];have:l.length * m<=50000 * 6:=Nat.mul_le_mul hl hm;exact i5 this ⋯) (λr hr G' hG=>by
   have h2:G'[2]?=some (.dat (.int m)):=hG.1 2 ⋯;simp! [U,eE,h2,aX m ⋯,hg]) (λr hr' x hx G' hG=>by
   have h3:G'[3]?=some (.dat (Rw m ao)):=hG.1 3 ⋯;have h4:G'[4]?=some (.dat (Rw m aB)):=hG.1 4 ⋯;have h6:G'[6]?=some (.dat (.int s)):=hG.1 6 ⋯;have hx':=gw.mp hx;have i3:vE (Rw m ao) (.int s)=some (.lst ((nb (s:Int) ao).map .int)):=by
    show L2.fy _ _=_;rw[gI _ _ (by simpa using hs)]
    simp
   have i4:vE (Rw m aB) (.int x)=some (.lst ((nb x aB).map .int)):=by
    obtain⟨x,rfl⟩:∃n:Nat,x=n:=⟨x.toNat,by lia⟩
    show L2.fy _ _=_;rw[gI _ _ (by simp;lia)]
    simp
   have f:=λn k=>Nb U (n:=n) (k:=k) r (nb (s:Int) ao) (nb x aB) (by rw[hr r hr'];lia)
   unfold um;rw[hr r hr'];by_cases hin:x∈r
   . simp! [U,qo,hG.2.1,hG.2.2,h3,h4,h6,i3,i4,lY,hin]
   .
    simp! [U,qo,hG.2.1,hG.2.2,h3,h4,h6,i3,i4,lY,hin,hF,tW (fx:=qa) rfl,f]) λr hr' x hx _ G' hG=>by
   have o:vD .Add (~~~r) (.tup [.int x])=some (.dat (~~~(r++[x]))):=by
    have hlr:(List.map D.int r).length+[D.int x].length<=lim:=au _ (by rw[fR,hr r hr'];simp;lia)
    simp only[vD,G4,hlr,wS,tP];rfl
   simp! [U,hG.2.1,hG.2.2,o,au 1 ⋯]
 have e:(l.flatMap λr=>((nums m).filter λx=>!decide (x∈r)&&um ao aB r x).map λx=>~~~(r++[x]))=(Ih m ao aB l).map λr=>~~~r:=by
  unfold Ih;rw[List.map_flatMap]
  congr 1
  funext r
  rw[List.map_map];rfl
 rw[e]at w;simp only[aH,w];simp
theorem yH(m:Nat)(hm:1<=m/\m<=6)(ao aB:List (List Int))(h:Wb m ao)(h':Wb m aB):cB (rn (n+60)) (k+2) (fh ro fi) [W m ao,W m aB]=some (.new (((turnsOf m).filter (good ao aB)).map λr=>~~~r)):=by
 have len:∀s r,r∈bf m s->r.length=s:=λs=>by
  induction s with
  |zero=>intro r hr;cases fA.mp hr;rfl
  |succ s ih=>intro r hr;unfold bf ext at hr;obtain⟨q,hq,hr⟩:=List.mem_flatMap.mp hr;obtain⟨x,_,rfl⟩:=i7.mp hr;rw[eR,ih q hq];rfl
 have big:∀s,s<=m->(bf m s).length<=50000:=λs hs=>i5 (iM m s) (i5 (Nat.pow_le_pow_left hm.2 s) (i5 (Nat.pow_le_pow_right ⋯ (show s<=6 by lia)) ⋯))
 have loop:=bT (T:=.nm 6) (b:=(rn (n+59)).b [] (k+2) [(.setC 5 (.cz 7 3 (.nm 8) (.slot 5) none (.nm 9) (.cR (.slot 2)) (some (.and [(.cmp .NotIn (.slot 9) (.slot 8)),(.call fi [(.slot 8),(.ix (.slot 3) (.slot 6)),(.ix (.slot 4) (.slot 9))])])) (.bin .Add (.slot 8) (.tup [(.slot 9)]))))]) (λ(j:Nat)=>D.int (j:Int))
  (I:=λl g=>∃(j:Nat) (s6:Slot),j<=m/\l=List.range' j (m - j)/\g=[.dat (W m ao),.dat (W m aB),.dat (.int m),.dat (Rw m ao),.dat (Rw m aB),.own (((bf m j).filter (good ao aB)).map λr=>~~~r),s6])
  (step:=λa l g h=>by
   obtain⟨j,s6,h0,h1,rfl⟩:=h;have Uu:j<m:=by
    rcases t6 j m with h |h
    . exact h
    . rw[An h]at h1;cases h1
   have hc:List.range' j (m - j)=j::List.range' (j+1) (m - (j+1)):=by rw[show m - j=(m - (j+1))+1 by lia,AJ]
   rw[hc]at h1;injection h1 with e1 e2;subst e1 e2;have q:=YQ U hR hF (n:=n+18) (k:=k+1) m a hm.2 Uu ao aB ((bf m a).filter (good ao aB)) (i5 (u7 _ _) (big a ⋯)) (λr hr=>len a r (i8.mp hr).1) (W m ao) (W m aB)
   rw[v8]at q;refine⟨_,_,rfl,?_,a+1,.dat (.int a),by lia,rfl,rfl⟩
   rw[U.b];exact (aG (rest:=[]) q).trans rfl)
 obtain⟨g',⟨j,s6,h0,h1,rfl⟩,h2⟩:=loop (List.range' 0 m) [.dat (W m ao),.dat (W m aB),.dat (.int m),.dat (Rw m ao),.dat (Rw m aB),.own [~~~[]],.no] ⟨0,.no,by lia,rfl,rfl⟩
 have hj:j=m:=by
  have:(List.range' j (m - j)).length=0:=by rw[<- h1];rfl
  rw[List.length_range']at this;lia
 subst hj;have hr:cL 0 j=(List.range' 0 j).map λ(x:Nat)=>D.int (x:Int):=by unfold cL;rw[wP];exact sK λx _=>by rw[CI]
 have i0:vE (W j ao) (.int 0)=some (.int j):=rfl;have i1:vE (W j ao) (.int 1)=some (.tup (ao.map λx=>~~~x)):=rfl
 have i2:vE (W j aB) (.int 1)=some (.tup (aB.map λx=>~~~x)):=rfl
 have r1:=λn k=>z6 U (n:=n) (k:=k) j hm.2 ao h
 have r2:=λn k=>z6 U (n:=n) (k:=k) j hm.2 aB h'
 have t0:D.tup [] = ~~~[]:=rfl;unfold cB fh turnsOf;simp! [U,i0,i1,i2,hR,bU (fx:=p9) rfl,r1,r2,au 0 ⋯,au 1 ⋯,Tg.ix,Tg.gH,eE,aX j ⋯,hr,t0,h2]
end
noncomputable def qg(mw tt:Nat):Fx:=⟨2,3,[(.expr (.call mw [(.slot 0)])),(.expr (.call mw [(.slot 1)])),(.ite (.cmp .NotEq (.ix (.slot 0) (.val (.int 0))) (.ix (.slot 1) (.val (.int 0)))) [(.ret (.val .non))] []),(.set 2 (.call tt [(.slot 0),(.slot 1)])),(.ret (.ite (.slot 2) (.ix (.slot 2) (.val (.int 0))) (.val .non)))]⟩
noncomputable def gA:Fx:=⟨1,5,[(.set 1 (.lst [(.tup [])])),(.loop (.nm 2) (.cR (.slot 0)) [(.set 3 (.lst [])),(.loop (.nm 4) (.slot 1) [(.expr (.extend 3 (.comp 5 2 (.nm 6) (.cR (.slot 0)) (some (.cmp .NotIn (.slot 6) (.slot 4))) (.bin .Add (.slot 4) (.tup [(.slot 6)])))))]),(.set 1 (.slot 3))]),(.ret (.slot 1))]⟩
def led(m:Nat)(ao:List (List Int))(m':Nat)(aB:List (List Int)):List (List Int):=(turnsOf m).filter λt=>decide (m=m'/\tw t ao=aB)
noncomputable def YS:List (List Int)->D
 | []=>.non
 |t::_=>~~~t
theorem Ij{m:Nat}(hm:1<=m/\m<=6){ao aB:List (List Int)}(h:Wb m ao)(h':Wb m aB):(turnsOf m).filter (good ao aB)=led m ao m aB:=by
 refine List.filter_congr λt ht=>?_
 rw[BI,Ii h h' ((p7 hm).1 t ht),hU];exact⟨λe=>⟨rfl,e⟩,λe=>e.2⟩
theorem Nc{m m':Nat}(h:m≠m')(ao aB:List (List Int)):led m ao m' aB=[]:=List.filter_eq_nil_iff.mpr λt _=>by simp[h]
theorem Ik(m:Nat)(l:List (List Int))(r:List Int):ext m (l++[r])=ext m l++((nums m).filter λx=>!decide (x∈r)).map λx=>r++[x]:=by unfold ext;rw[List.flatMap_append,List.flatMap_singleton]
section
variable{wh wi it ri iw ci mw ro fi tt:Nat}(U:uE fns rn)
include U
theorem YT(m:Nat)(hm:m<=6)(l:List (List Int))(hl:l.length<=50000)(hr:∀r∈l,r.length<=10)(d1:D)(s2 a4:Slot):∃b4,jo (.nm 4) ((rn (n+20)).b [] k [(.expr (.extend 3 (.comp 5 2 (.nm 6) (.cR (.slot 0)) (some (.cmp .NotIn (.slot 6) (.slot 4))) (.bin .Add (.slot 4) (.tup [(.slot 6)])))))]) (l.map λr=>~~~r) [.dat (.int m),.dat d1,s2,.own [],a4]=some (.nx,[.dat (.int m),.dat d1,s2,.own ((ext m l).map λr=>~~~r),b4]):=by
 have hg:cL 0 m=(nums m).map .int:=kD m;have bnd:∀l:List (List Int),(ext m l).length<=l.length * 6:=λl=>by
  induction l with
  |nil=>simp[ext]
  |cons r l ih=>
   unfold ext at ih ⊢
   rw[AU,eR,fR,l6,CH];have:=u7 (λx=>!decide (x∈r)) (nums m)
   rw[eZ]at this;lia
 have loop:=bT (T:=.nm 4) (b:=(rn (n+20)).b [] k [(.expr (.extend 3 (.comp 5 2 (.nm 6) (.cR (.slot 0)) (some (.cmp .NotIn (.slot 6) (.slot 4))) (.bin .Add (.slot 4) (.tup [(.slot 6)])))))]) (λr=>~~~r)
  (I:=λrest g=>∃(pre:List (List Int)) (s4:Slot),pre++rest=l/\g=[.dat (.int m),.dat d1,s2,.own ((ext m pre).map λr=>~~~r),s4])
  (step:=λr rest g h=>by
   obtain⟨pre,s4,e0,rfl⟩:=h;have hrl:r.length<=10:=hr r (by rw[<- e0];simp)
   have gQ:pre.length<=50000:=by rw[<- e0,eR]at hl;lia
   have w:=rO (rn:=rn (n+17)) (bor:=[]) (k:=k) (g:=[.dat (.int m),.dat d1,s2,.own ((ext m pre).map λr=>~~~r),.dat (~~~r)]) (g1:=[.dat (.int m),.dat d1,s2,.own ((ext m pre).map λr=>~~~r),.dat (~~~r)]) (kk:=2) (nn:=5) (j:=6) (it:=.cR (.slot 0)) (c:=some (.cmp .NotIn (.slot 6) (.slot 4))) (e:=.bin .Add (.slot 4) (.tup [(.slot 6)])) (nums m) .int (λx=>!decide (x∈r)) (λx=>~~~(r++[x])) (by simp! [U,eE,aX m ⋯,hg]) rfl ⋯ ⋯ ⋯ (au _ (by rw[eZ];lia)) (λx hx G' hG=>by
     have h4:G'[4]?=some (.dat (~~~r)):=hG.1 4 ⋯;simp! [U,qo,hG.2,h4,lY]) λx hx _ G' hG=>by
     have h4:G'[4]?=some (.dat (~~~r)):=hG.1 4 ⋯;have o:vD .Add (~~~r) (.tup [.int x])=some (.dat (~~~(r++[x]))):=by
      have hlr:(List.map D.int r).length+[D.int x].length<=lim:=au _ (by rw[fR];simp;lia)
      simp only[vD,G4,hlr,wS,tP];rfl
     simp! [U,hG.2,h4,o,au 1 ⋯]
   have e3:(((nums m).filter λx=>!decide (x∈r)).map λx=>~~~(r++[x]))=(((nums m).filter λx=>!decide (x∈r)).map λx=>r++[x]).map λr=>~~~r:=by rw[List.map_map];rfl
   rw[e3]at w;have z:(ext m pre).length+((nums m).filter λx=>!decide (x∈r)).length<=lim:=by
    have h1:=bnd pre;have h2:=u7 (λx=>!decide (x∈r)) (nums m)
    rw[eZ]at h2;exact i5 (show _<=400000 by lia) ⋯
   refine⟨_,[.dat (.int m),.dat d1,s2,.own ((ext m (pre++[r])).map λr=>~~~r),.dat (~~~r)],rfl,?_,pre++[r],_,by rw[<- e0];simp,rfl⟩
   rw[Ik,tP];simp! [U,w,z])
 obtain⟨g',⟨pre,s4,e0,rfl⟩,q⟩:=loop l [.dat (.int m),.dat d1,s2,.own [],a4] ⟨[],a4,rfl,rfl⟩;rw[mB]at e0;subst e0;exact⟨s4,q⟩
theorem wg(m:Nat)(hm:1<=m/\m<=6):cB (rn (n+40)) k gA [.int m]=some (.dat (.lst ((turnsOf m).map λr=>~~~r))):=by
 have len:∀s r,r∈bf m s->r.length=s:=λs=>by
  induction s with
  |zero=>intro r hr;cases fA.mp hr;rfl
  |succ s ih=>intro r hr;unfold bf ext at hr;obtain⟨q,hq,hr⟩:=List.mem_flatMap.mp hr;obtain⟨x,_,rfl⟩:=i7.mp hr;rw[eR,ih q hq];rfl
 have big:∀s,s<=m->(bf m s).length<=50000:=λs hs=>i5 (iM m s) (i5 (Nat.pow_le_pow_left hm.2 s) (i5 (Nat.pow_le_pow_right ⋯ (show s<=6 by lia)) ⋯))
 have loop:=bT (T:=.nm 2) (b:=(rn (n+39)).b [] k [(.set 3 (.lst [])),(.loop (.nm 4) (.slot 1) [(.expr (.extend 3 (.comp 5 2 (.nm 6) (.cR (.slot 0)) (some (.cmp .NotIn (.slot 6) (.slot 4))) (.bin .Add (.slot 4) (.tup [(.slot 6)])))))]),(.set 1 (.slot 3))]) (λ(j:Nat)=>D.int (j:Int))
  (I:=λl g=>∃(j:Nat) (s1 s2 s3 s4:Slot),j<=m/\l=List.range' j (m - j)/\g=[.dat (.int m),s1,s2,s3,s4]/\(s1=.dat (.lst ((bf m j).map λr=>~~~r))\/(j=0/\s1=.own ((bf m j).map λr=>~~~r))))
  (step:=λa l g h=>by
   obtain⟨j,s1,s2,s3,s4,h0,h1,rfl,h3⟩:=h;have Uu:j<m:=by
    rcases t6 j m with h |h
    . exact h
    . rw[An h]at h1;cases h1
   have hc:List.range' j (m - j)=j::List.range' (j+1) (m - (j+1)):=by rw[show m - j=(m - (j+1))+1 by lia,AJ]
   rw[hc]at h1;injection h1 with e1 e2;subst e1 e2;obtain⟨b4,q⟩:=YT U (n:=n+18) (k:=k) m hm.2 (bf m a) (big a ⋯) (λr hr=>by rw[len a r hr];lia) (.lst ((bf m a).map λr=>~~~r)) (.dat (.int a)) s4
   refine⟨_,[.dat (.int m),.dat (.lst ((bf m (a+1)).map λr=>~~~r)),.dat (.int a),.dat (.lst ((bf m (a+1)).map λr=>~~~r)),b4],rfl,?_,a+1,_,_,_,_,by lia,rfl,rfl,.inl rfl⟩
   have q':jo (.nm 4) ((rn (n+38)).b [] k [(.expr (.extend 3 (.comp 5 2 (.nm 6) (.cR (.slot 0)) (some (.cmp .NotIn (.slot 6) (.slot 4))) (.bin .Add (.slot 4) (.tup [(.slot 6)])))))]) ((bf m a).map λr=>~~~r) [.dat (.int m),.dat (.lst ((bf m a).map λr=>~~~r)),.dat (.int a),.own [],s4]=some (.nx,[.dat (.int m),.dat (.lst ((bf m a).map λr=>~~~r)),.dat (.int a),.own ((bf m (a+1)).map λr=>~~~r),b4]):=q
   generalize hb:(rn (n+38)).b [] k [(.expr (.extend 3 (.comp 5 2 (.nm 6) (.cR (.slot 0)) (some (.cmp .NotIn (.slot 6) (.slot 4))) (.bin .Add (.slot 4) (.tup [(.slot 6)])))))]=bb at q';rcases h3 with rfl |⟨rfl,rfl⟩
   . simp! [U,au 0 ⋯,Tg.ix,Tg.gH,eE,hb,q']
   .
    simp! [U,au 0 ⋯,Tg.ix,Tg.gH,eE,hb];simp at q';simp[q'])
 obtain⟨g',⟨j,s1,s2,s3,s4,h0,h1,rfl,h3⟩,h2⟩:=loop (List.range' 0 m) [.dat (.int m),.own [~~~[]],.no,.no,.no] ⟨0,_,_,_,_,by lia,rfl,rfl,.inr ⟨rfl,rfl⟩⟩
 have hj:j=m:=by
  have:(List.range' j (m - j)).length=0:=by rw[<- h1];rfl
  rw[List.length_range']at this;lia
 subst hj;obtain rfl:=h3.resolve_right λe=>by lia
 have hr:cL 0 j=(List.range' 0 j).map λ(x:Nat)=>D.int (x:Int):=by unfold cL;rw[wP];exact sK λx _=>by rw[CI]
 have t0:D.tup [] = ~~~[]:=rfl;unfold cB gA turnsOf;simp! [U,au 0 ⋯,au 1 ⋯,Tg.ix,Tg.gH,eE,aX j ⋯,hr,t0,h2]
variable(hW:fns[wh]?=some fc)(hI:fns[wi]?=some (fG wh))(CK:fns[it]?=some (jJ wi))(hRi:fns[ri]?=some yD)(Vz:fns[iw]?=some (jK wi it ri))(Z4:fns[mw]?=some (bx iw ci))(hR:fns[ro]?=some p9)(hF:fns[fi]?=some qa)(hTT:fns[tt]?=some (fh ro fi))
include hW hI CK hRi Vz Z4 hR hF hTT
theorem Il(m m':Nat)(hm:1<=m/\m<=6)(hm':1<=m'/\m'<=6)(ao aB:List (List Int))(h:Wb m ao)(h':Wb m' aB):cB (rn (n+90)) (k+8) (qg mw tt) [W m ao,W m' aB]=some (.dat (YS (led m ao m' aB))):=by
 have q1:=λn k=>jL (ci:=ci) U hW hI CK hRi Vz (n:=n) (k:=k) m ao hm h
 have q2:=λn k=>jL (ci:=ci) U hW hI CK hRi Vz (n:=n) (k:=k) m' aB hm' h'
 have i0:∀m ao,vE (W m ao) (.int 0)=some (.int m):=λ_ _=>rfl
 unfold cB qg;by_cases e:m=m'
 .
  subst e;have q3:=λn k=>yH U hR hF (n:=n) (k:=k) m hm ao aB h h'
  rw[Ij hm h h']at q3;cases hl:led m ao m aB with
  |nil=>rw[hl]at q3;simp! [U,Z4,aZ (fx:=bx iw ci) rfl,q1,q2,i0,hTT,bU (fx:=fh ro fi) rfl,q3];rfl
  |cons t l=>
   rw[hl]at q3;have a0:L2.fy ((t::l).map λr=>~~~r) 0=some (~~~t):=by simp[L2.fy,L2.ql]
   simp! [U,Z4,aZ (fx:=bx iw ci) rfl,q1,q2,i0,hTT,bU (fx:=fh ro fi) rfl,q3,a0];rfl
 .
  have e' : ¬ (m:Int)=m':=by lia
  rw[Nc e];simp! [U,Z4,aZ (fx:=bx iw ci) rfl,q1,q2,i0,e'];rfl
end
noncomputable def d9:Fx:=⟨1,3,[(.set 1 (.lst [])),(.loop (.nm 2) (.cR (.slot 0)) [(.expr (.extend 1 (.comp 3 2 (.nm 4) (.gW (.bin .Add (.slot 2) (.val (.int 1))) (.slot 0)) none (.tup [(.slot 2),(.slot 4)]))))]),(.ret (.slot 1))]⟩
def Ng(ti:Nat):Option Ex:=some (.cmp .Lt (.call ti [(.slot 0),(.val (.int 8))]) (.ix (.lst [(.val (.int 2)),(.val (.int 4)),(.val (.int 6))]) (.bin .Mod (.slot 3) (.val (.int 3)))))
def Nh:List Sm:=[(.expr (.append 4 (.blt .tuple [(.blt .sorted [(.lst [(.ix (.slot 5) (.slot 6)),(.ix (.slot 5) (.ix (.lst [(.bin .Sub (.slot 6) (.val (.int 1))),(.bin .Sub (.slot 6) (.val (.int 1))),(.val (.int 0)),(.bin .FloorDiv (.slot 6) (.val (.int 2)))]) (.bin .Sub (.slot 3) (.val (.int 3)))))])])])))]
def Im:Sm:=.ite (.and [(.cmp .Eq (.slot 3) (.val (.int 4))),(.cmp .Gt (.slot 2) (.val (.int 2)))]) [(.expr (.append 4 (.blt .tuple [(.blt .sorted [(.lst [(.ix (.slot 5) (.val (.int 0))),(.ix (.slot 5) (.bin .Sub (.slot 2) (.val (.int 1))))])])])))] []
noncomputable def Ni(ti:Nat):Option Ex:=some (.cmp .Eq (.call ti [(.slot 0),(.val (.int 12))]) (.val (.int 0)))
noncomputable def Nj:Option Ex:=some (.cmp .NotEq (.cmp .In (.slot 9) (.slot 4)) (.cmp .In (.slot 9) (.slot 7)))
noncomputable def Uv(ti:Nat):Sm:=.set 2 (.blt .max [(.val (.int 1)),(.bin .Sub (.slot 1) (.ix (.lst [(.val (.int 0)),(.val (.int 4)),(.val (.int 1)),(.val (.int 0)),(.val (.int 2)),(.val (.int 1)),(.val (.int 3)),(.slot 1)]) (.call ti [(.slot 0),(.val (.int 8))])))])
def Nk(ti pi:Nat):Sm:=.ite (.cmp .Gt (.slot 3) (.val (.int 2))) [(.set 4 (.lst [])),(.loop (.nm 6) (.gW (.val (.int 1)) (.slot 2)) Nh),Im,(.set 7 (.comp 8 2 (.nm 9) (.call pi [(.slot 2)]) (Ni ti) (.slot 9))),(.set 4 (.comp 8 2 (.nm 9) (.call pi [(.slot 2)]) Nj (.slot 9)))] []
def yI(ti pi mi:Nat):Fx:=⟨2,8,[(Uv ti),(.set 3 (.call ti [(.slot 0),(.val (.int 7))])),(.set 4 (.comp 8 2 (.nm 9) (.call pi [(.slot 2)]) (Ng ti) (.slot 9))),(.set 5 (.call mi [(.slot 0),(.eW (.slot 2))])),(Nk ti pi),(.ret (.tup [(.slot 2),(.blt .tuple [(.blt .sorted [(.slot 4)])])]))]⟩
noncomputable def uo(m a:Nat):List (List Int):=(List.range (m - (a+1))).map λ(j:Nat)=>[(a:Int),(a:Int)+1+(j:Int)]
def pacc(m j:Nat):List (List Int):=((List.range j).map (uo m)).flatten
theorem rT(m j:Nat):pacc m (j+1)=pacc m j++uo m j:=by simp[pacc,List.range_succ]
theorem wj(m:Nat):∀j,(pacc m j).length<=j * m
 | 0=>by simp[pacc]
 |j+1=>by
  rw[rT,eR,CH];have:=wj m j;have h2:(uo m j).length<=m:=by simp[uo]
  lia
def prs(m:Nat):List (List Int):=pacc m m
def okP(m:Nat):Bool:=(prs m).all (λx=>match x with | [a,b]=>decide (0<=a)&&decide (a<b)&&decide (b<m) |_=>false)&&decide ((prs m).Nodup)&&decide ((prs m).length<=15)
theorem Nm{m:Nat}(hm:1<=m/\m<=6):okP m=true:=by
 obtain⟨h1,h2⟩:=hm
 match m,h1,h2 with
 | 1,_,_=>decide +kernel
 | 2,_,_=>decide +kernel
 | 3,_,_=>decide +kernel
 | 4,_,_=>decide +kernel
 | 5,_,_=>decide +kernel
 | 6,_,_=>decide +kernel
theorem iN{m:Nat}(hm:1<=m/\m<=6):(∀x∈prs m,Pr m x)/\(prs m).Nodup/\(prs m).length<=15:=by
 have:=Nm hm;unfold okP at this;simp only[eC,hU,hZ]at this;obtain⟨⟨h1,h2⟩,h3⟩:=this;refine⟨λx hx=>?_,h2,h3⟩
 have:=h1 x hx;split at this
 . rename_i a b;simp only[eC,hU]at this;exact⟨a,b,rfl,this.1.1,this.1.2,this.2⟩
 . cases this
theorem Wb.Uw{m:Nat}(hm:1<=m/\m<=6){l:List (List Int)}(h:l.Sublist (prs m)):Wb m (bK dF l):=by
 obtain⟨h1,h2,h3⟩:=iN hm;have hp:=cG (O:=dF) l;refine⟨λx hx=>h1 x (h.subset (hp.mem_iff.mp hx)),fS (h.nodup h2),?_⟩
 rw[hp.length_eq];exact i5 h.length_le h3
section
variable{ti pi mi:Nat}(U:uE fns rn)(hT:fns[ti]?=some bN)(hP:fns[pi]?=some d9)(hM:fns[mi]?=some (lR ti))
include U
theorem kL(m:Nat)(hm:1<=m/\m<=6):cB (rn (n+30)) k d9 [.int m]=some (.new ((prs m).map λx=>~~~x)):=by
 have loop:=bT (T:=.nm 2) (b:=(rn (n+29)).b [] k [(.expr (.extend 1 (.comp 3 2 (.nm 4) (.gW (.bin .Add (.slot 2) (.val (.int 1))) (.slot 0)) none (.tup [(.slot 2),(.slot 4)]))))]) (λ(j:Nat)=>D.int (j:Int))
  (I:=λl g=>∃(j:Nat) (s2:Slot),j<=m/\l=List.range' j (m - j)/\g=[.dat (.int m),.own ((pacc m j).map λx=>~~~x),s2])
  (step:=λa l g h=>by
   obtain⟨j,s2,h0,h1,rfl⟩:=h;have Uu:j<m:=by
    rcases t6 j m with h |h
    . exact h
    . rw[An h]at h1;cases h1
   have hc:List.range' j (m - j)=j::List.range' (j+1) (m - (j+1)):=by rw[show m - j=(m - (j+1))+1 by lia,AJ]
   rw[hc]at h1;injection h1 with e1 e2;subst e1 e2;have aL:(pacc m a).length<=36:=i5 (wj m a) (i5 (Nat.mul_le_mul (show a<=6 by lia) hm.2) ⋯)
   have hlr:(uo m a).length<=6:=by simp[uo];lia
   have w:=zY (rn:=rn (n+26)) (bor:=[]) (k:=k) (g:=[.dat (.int m),.own ((pacc m a).map λx=>~~~x),.dat (.int a)]) (g1:=[.dat (.int m),.own ((pacc m a).map λx=>~~~x),.dat (.int a)]) (kk:=2) (nn:=3) (j:=4) (it:=.gW (.bin .Add (.slot 2) (.val (.int 1))) (.slot 0)) (e:=.tup [(.slot 2),(.slot 4)]) (List.range (m - (a+1))) (λ(j:Nat)=>.int ((a:Int)+1+(j:Int))) (λ(j:Nat)=>.tup [.int (a:Int),.int ((a:Int)+1+(j:Int))]) (by
     have e:((m:Int) - ((a:Int)+1)).toNat=m - (a+1):=by lia
     simp! [U,eE,aX ((a:Int)+1) ⋯,aX m ⋯,e,cL]) rfl ⋯ ⋯ ⋯ (au _ (by simp;lia)) λx hx G' hG=>by
    have h2:G'[2]?=some (.dat (.int a)):=hG.1 2 ⋯;simp! [U,hG.2,h2,au 2 ⋯]
   have e3:(List.range (m - (a+1))).map (λ(j:Nat)=>D.tup [.int (a:Int),.int ((a:Int)+1+(j:Int))])=(uo m a).map λx=>~~~x:=by unfold uo;rw[List.map_map];rfl
   rw[e3]at w;have z:(pacc m a).length+(uo m a).length<=lim:=au _ ⋯;refine⟨[.dat (.int m),.own ((pacc m a).map λx=>~~~x),.dat (.int a)],[.dat (.int m),.own ((pacc m (a+1)).map λx=>~~~x),.dat (.int a)],rfl,?_,a+1,_,by lia,rfl,rfl⟩
   rw[rT,tP];simp! [U,w,z])
 obtain⟨g',⟨j,s2,h0,h1,rfl⟩,h2⟩:=loop (List.range' 0 m) [.dat (.int m),.own [],.no] ⟨0,.no,by lia,rfl,rfl⟩
 have hj:j=m:=by
  have:(List.range' j (m - j)).length=0:=by rw[<- h1];rfl
  rw[List.length_range']at this;lia
 subst hj;have hr:cL 0 j=(List.range' 0 j).map λ(x:Nat)=>D.int (x:Int):=by unfold cL;rw[wP];exact sK λx _=>by rw[CI]
 unfold cB d9;simp! [U,Tg.ix,Tg.gH,eE,aX j ⋯,hr,h2];rfl
end
theorem cpS{rn:Rn}{bor:List Nat}{k:Nat}{α:Type}{kk nn j:Nat}{c:Option Ex}(cC:α->D)(gs:Int->G)(hn:∀s,(gs s).length=nn)(hj1:nn<=j)(hj2:j<nn+kk) :
  ∀(aj:List α) (s:Int) (m:G) (acc:List D),m.length=kk->acc.length+aj.length<=lim->
  (∀a∈aj,∀s m acc,m.length=kk->m[j - nn]?=some (.dat (cC a))->∃b s',qo rn bor k c (gM (gs s) m acc)=some (b,gM (gs s') m acc))->
  (∀a∈aj,∀s m acc,m.length=kk->m[j - nn]?=some (.dat (cC a))->eX rn bor k (.slot j) (gM (gs s) m acc)=some (cC a,gM (gs s) m acc))->
  ∃(sub:List α) (s':Int) (m':G),sub.Sublist aj/\m'.length=kk/\x8 rn bor k (.nm j) (nn+kk) c (.slot j) (aj.map cC) (gM (gs s) m acc)=some (gM (gs s') m' (acc++sub.map cC))
 | [],s,m,acc,hm,_,_,_=>⟨[],s,m,AE _,hm,by simp[x8]⟩
 |a::aj,s,m,acc,hm,hl,hc,he=>by
  rw[l6]at hl;have Uu:j - nn<m.length:=by lia
  have q1:(Tg.nm j).set (cC a) (gM (gs s) m acc)=some (gM (gs s) (m.set (j - nn) (.dat (cC a))) acc):=by
   have:=tV (g:=gs s) (kk:=kk) (j:=j) (d:=cC a) (m:=m) (acc:=acc) (by rw[hn];exact hj1) (by rw[hn];exact Uu)
   rw[hn]at this;exact this
  have hm':(m.set (j - nn) (.dat (cC a))).length=kk:=by simpa using hm
  have hg:(m.set (j - nn) (.dat (cC a)))[j - nn]?=some (.dat (cC a)):=by rw[fI Uu]
  obtain⟨b,s',q2⟩:=hc a dA s _ acc hm' hg;rw[List.map_cons];unfold x8;rw[q1];dsimp only;rw[q2];cases b with
  |false=>
   dsimp only;obtain⟨sub,s2,m2,w1,w2,w3⟩:=cpS cC gs hn hj1 hj2 aj s' _ acc hm' ⋯ (λx hx=>hc x (a9 _ hx)) (λx hx=>he x (a9 _ hx))
   exact⟨sub,s2,m2,w1.cons a,w2,w3⟩
  |true=>
   dsimp only;rw[he a dA s' _ acc hm' hg];dsimp only;have q4:(gM (gs s') (m.set (j - nn) (.dat (cC a))) acc)[nn+kk]?=some (.own acc):=by have:=iX (g:=gs s') (m:=m.set (j - nn) (.dat (cC a))) (acc:=acc);rw[hn,hm']at this;exact this
   rw[q4];dsimp only;rw[fN ⋯];have q5:(gM (gs s') (m.set (j - nn) (.dat (cC a))) acc).set (nn+kk) (.own (acc++[cC a]))=gM (gs s') (m.set (j - nn) (.dat (cC a))) (acc++[cC a]):=by have:=iJ (g:=gs s') (m:=m.set (j - nn) (.dat (cC a))) (acc:=acc) (acc':=acc++[cC a]);rw[hn,hm']at this;exact this
   rw[q5];obtain⟨sub,s2,m2,w1,w2,w3⟩:=cpS cC gs hn hj1 hj2 aj s' _ (acc++[cC a]) hm' (by rw[eR,t8];lia) (λx hx=>hc x (a9 _ hx)) (λx hx=>he x (a9 _ hx))
   refine⟨a::sub,s2,m2,w1.cons_cons a,w2,?_⟩;rw[w3];simp
theorem O2{rn:Rn}{bor:List Nat}{k:Nat}{α:Type}{kk nn j:Nat}{it:Ex}{c:Option Ex}{s:Int}{g:G}(aj:List α)(cC:α->D)(gs:Int->G)(hn:∀s,(gs s).length=nn)(hj1:nn<=j)(hj2:j<nn+kk)(hw:eE rn bor k false it g=some (aj.map cC,gs s))(hb:j∉bor)(hl:aj.length<=lim)
  (hc:∀a∈aj,∀s m acc,m.length=kk->m[j - nn]?=some (.dat (cC a))->∃b s',qo rn bor k c (gM (gs s) m acc)=some (b,gM (gs s') m acc))
  (he:∀a∈aj,∀s m acc,m.length=kk->m[j - nn]?=some (.dat (cC a))->eX rn bor k (.slot j) (gM (gs s) m acc)=some (cC a,gM (gs s) m acc)) :
  ∃(sub:List α) (s':Int),sub.Sublist aj/\fY rn bor k nn kk (.nm j) it c (.slot j) g=some (sub.map cC,gs s'):=by
 obtain⟨sub,s',m',w1,w2,w3⟩:=cpS (rn:=rn) (bor:=bor) (k:=k) (c:=c) cC gs hn hj1 hj2 aj s (List.replicate kk .no) [] ⋯ (by simpa using hl) hc he
 refine⟨sub,s',w1,?_⟩;unfold fY;rw[show (Tg.nm j).gH=false from rfl,hw]
 dsimp only;rw[fN ⟨hn s,by simp[Tg.ix,hb]⟩,HN,w3]
 dsimp only;have:(gM (gs s') m' ([]++sub.map cC))[nn+kk]?=some (.own ([]++sub.map cC)):=by have:=iX (g:=gs s') (m:=m') (acc:=[]++sub.map cC);rw[hn,w2]at this;exact this
 rw[this];dsimp only;have ht:=tT (g:=gs s') (m:=m') (acc:=[]++sub.map cC);rw[hn]at ht;rw[ht,AD]
section
variable{ti pi mi:Nat}(U:uE fns rn)(hT:fns[ti]?=some bN)(hP:fns[pi]?=some d9)(hM:fns[mi]?=some (lR ti))
include U
theorem sl9{f:G}{m:G}{acc:List D}{d:D}{j nn:Nat}(hf:f.length=nn)(hj:nn<=j)(hm:m[j - nn]?=some (.dat d)):eX (rn (n+1)) bor k (.slot j) (gM f m acc)=some (d,gM f m acc):=by
 have qi:=(b0.mp hm).1;have:(gM f m acc)[j]?=some (.dat d):=by
  have:=dG (g:=f) (m:=m) (acc:=acc) (i:=j - nn) qi;rw[hf,show nn+(j - nn)=j by lia]at this
  rw[this,hm]
 simp! [U,this]
def fr(s:Int)(fl:Bool)(a2 a3 a4 a5 a6 a7:Slot):G:=[St s fl,.dat (.int 6),a2,a3,a4,a5,a6,a7]
include hT in
theorem w1(s:Int)(fl:Bool):∃(m:Nat) (s':Int),(1<=m/\m<=6)/\aH (rn (n+40)) [0] (k+3) (Uv ti) (fr s fl .no .no .no .no .no .no)=some (.nx,fr s' fl (.dat (.int m)) .no .no .no .no .no):=by
 obtain⟨r,s',r1,r2,q⟩:=dM U (n:=n+16) (k:=k+2) (g:=fr s fl .no .no .no .no .no .no) (i:=0) (s:=s) (fl:=fl) (m:=8) rfl ⋯;have q':aU (rn (n+36)) bN (k+2) [.var 0,.dat (.int 8)] [St s fl,.dat (.int 6),.no,.no,.no,.no,.no,.no]=some (.dat (.int r),[St s' fl,.dat (.int 6),.no,.no,.no,.no,.no,.no]):=q;obtain⟨v,hv,h0⟩:∃v:Int,(0<=v/\v<=6)/\L2.fy [D.int 0,.int 4,.int 1,.int 0,.int 2,.int 1,.int 3,.int 6] r=some (.int v):=by
  have:r=0\/r=1\/r=2\/r=3\/r=4\/r=5\/r=6\/r=7:=by lia
  rcases this with rfl |rfl |rfl |rfl |rfl |rfl |rfl |rfl <;> exact⟨_,by decide,rfl⟩
 refine⟨(if 6 - v > 1 then 6 - v else 1).toNat,s',?_,?_⟩
 . split <;> lia
 .
  have e:(((if 6 - v > 1 then 6 - v else 1).toNat:Nat):Int)=if 6 - v > 1 then 6 - v else 1:=by split <;> lia
  rw[e];unfold fr Uv;simp! [U,hT,q',h0,au 8 ⋯]
include hT in
theorem w2(s:Int)(fl:Bool)(a2:Slot):∃(w:Int) (s':Int),(0<=w/\w<7)/\aH (rn (n+40)) [0] (k+3) (.set 3 (.call ti [(.slot 0),(.val (.int 7))])) (fr s fl a2 .no .no .no .no .no)=some (.nx,fr s' fl a2 (.dat (.int w)) .no .no .no .no):=by obtain⟨r,s',r1,r2,q⟩:=dM U (n:=n+19) (k:=k+2) (g:=fr s fl a2 .no .no .no .no .no) (i:=0) (s:=s) (fl:=fl) (m:=7) rfl ⋯;refine⟨r,s',⟨r1,r2⟩,?_⟩;have q':aU (rn (n+39)) bN (k+2) [.var 0,.dat (.int 7)] [St s fl,.dat (.int 6),a2,.no,.no,.no,.no,.no]=some (.dat (.int r),[St s' fl,.dat (.int 6),a2,.no,.no,.no,.no,.no]):=q;unfold fr;simp! [U,hT,q']
include hT hP in
theorem w3(s:Int)(fl:Bool)(m:Nat)(hm:1<=m/\m<=6)(w:Int)(hw:0<=w/\w<7):∃(sub:List (List Int)) (s':Int),sub.Sublist (prs m)/\aH (rn (n+60)) [0] (k+3) (.set 4 (.comp 8 2 (.nm 9) (.call pi [(.slot 2)]) (Ng ti) (.slot 9))) (fr s fl (.dat (.int m)) (.dat (.int w)) .no .no .no .no)=some (.nx,fr s' fl (.dat (.int m)) (.dat (.int w)) (.own (sub.map λx=>~~~x)) .no .no .no):=by
 have Ux:=λn k=>kL U (n:=n) (k:=k) m hm
 obtain⟨_,_,aL⟩:=iN hm;obtain⟨v,hv⟩:∃v:Int,L2.fy [D.int 2,.int 4,.int 6] (w % 3)=some (.int v):=by
  have:w % 3=0\/w % 3=1\/w % 3=2:=by lia
  rcases this with e |e |e <;> rw[e] <;> exact⟨_,rfl⟩
 obtain⟨sub,s',h1,h2⟩:=O2 (rn:=rn (n+59)) (bor:=[0]) (k:=k+3) (kk:=2) (nn:=8) (j:=9) (it:=.call pi [(.slot 2)]) (c:=Ng ti) (s:=s) (g:=fr s fl (.dat (.int m)) (.dat (.int w)) .no .no .no .no) (prs m) (λx=>~~~x) (λs=>fr s fl (.dat (.int m)) (.dat (.int w)) .no .no .no .no) (λ_=>rfl) ⋯ ⋯ (by unfold fr;simp! [U,eE,hP,aZ (fx:=d9) rfl,Ux]) ⋯ (au _ ⋯) (λa _ s mm acc h1 h2=>by
   obtain⟨r,s',r1,r2,q⟩:=dM U (n:=n+37) (k:=k+2) (g:=gM (fr s fl (.dat (.int m)) (.dat (.int w)) .no .no .no .no) mm acc) (i:=0) (s:=s) (fl:=fl) (m:=8) rfl ⋯;have q':aU (rn (n+57)) bN (k+2) [.var 0,.dat (.int 8)] (gM (fr s fl (.dat (.int m)) (.dat (.int w)) .no .no .no .no) mm acc)=some (.dat (.int r),gM (fr s' fl (.dat (.int m)) (.dat (.int w)) .no .no .no .no) mm acc):=q;have g0:∀s,(gM (fr s fl (.dat (.int m)) (.dat (.int w)) .no .no .no .no) mm acc)[0]?=some (St s fl):=λ_=>rfl
   have g3:∀s,(gM (fr s fl (.dat (.int m)) (.dat (.int w)) .no .no .no .no) mm acc)[3]?=some (.dat (.int w)):=λ_=>rfl
   refine⟨decide (r<v),s',?_⟩;simp! [U,Ng,qo,hT,g0,g3,q',nQ w 3 ⋯,hv,au 3 ⋯]) (λa _ s mm acc h1 h2=>sl9 U (n:=n+58) (nn:=8) rfl ⋯ h2)
 refine⟨sub,s',h1,?_⟩;simp only[aH,U.e,aV,h2];simp[fr]
end
def Np(l:List (List Int))(x:List Int):Bool:=(l.map λx=>~~~x).any λd=>bO d (~~~x)
theorem Uy(l:List (List Int))(x:List Int):ez .In (~~~x) (.lst (l.map λx=>~~~x))=some (Np l x):=by
 have h:nu (~~~x) (l.map λx=>~~~x)=true:=by have:=lX l;simp only[nu,gZ,dH,lW,eC,hU,true_and];lia
 simp only[ez,cW,h,wS];rfl
theorem Uz(a b:Bool):ez .NotEq (.bl a) (.bl b)=some (!(a==b)):=rfl
theorem z7(a b:Int):pC .sorted [.lst [.int a,.int b]]=some (.new ((cZ [a,b]).map .int)):=mU [a,b] ⋯
section
variable{ti pi mi:Nat}(U:uE fns rn)(hT:fns[ti]?=some bN)(hP:fns[pi]?=some d9)(hM:fns[mi]?=some (lR ti))
include U
include hT hM in
theorem w4(s:Int)(fl:Bool)(m:Nat)(hm:1<=m/\m<=6)(a3 a4:Slot):∃(row:List Int) (s':Int),row.length=m/\aH (rn (n+60)) [0] (k+3) (.set 5 (.call mi [(.slot 0),(.eW (.slot 2))])) (fr s fl (.dat (.int m)) a3 a4 .no .no .no)=some (.nx,fr s' fl (.dat (.int m)) a3 a4 (.own (row.map .int)) .no .no):=by
 have hr:cL 0 m=(nums m).map .int:=kD m;have hl:=eZ m;obtain⟨row,s',vZ,q⟩:=Ia U hT (n:=n+9) (k:=k+1) (g:=fr s fl (.dat (.int m)) a3 a4 .no .no .no) (i:=0) (s:=s) (fl:=fl) (nums m) rfl ⋯;have q':aU (rn (n+59)) (lR ti) (k+2) [.var 0,.dat (.lst ((nums m).map .int))] [St s fl,.dat (.int 6),.dat (.int m),a3,a4,.no,.no,.no]=some (.new (row.map .int),[St s' fl,.dat (.int 6),.dat (.int m),a3,a4,.no,.no,.no]):=q;refine⟨row,s',by rw[vZ.length_eq,hl],?_⟩
 unfold fr;simp! [U,hM,q',aX m ⋯,au m ⋯,hr]
theorem w5(s:Int)(fl:Bool)(m:Nat)(hm:1<=m/\m<=6)(w:Int)(hw:3<=w/\w<7)(row:List Int)(vZ:row.length=m)(a6 a7:Slot):∃(ao:List (List Int)) (a6':Slot),ao.length<=m/\aH (rn (n+60)) [0] (k+3) (.loop (.nm 6) (.gW (.val (.int 1)) (.slot 2)) Nh) (fr s fl (.dat (.int m)) (.dat (.int w)) (.own []) (.own (row.map .int)) a6 a7)=some (.nx,fr s fl (.dat (.int m)) (.dat (.int w)) (.own (ao.map λx=>~~~x)) (.own (row.map .int)) a6' a7):=by
 have loop:=bT (T:=.nm 6) (b:=(rn (n+60)).b [0] (k+3) Nh) (λ(j:Nat)=>D.int (1+(j:Int)))
  (I:=λl g=>∃(j:Nat) (ao:List (List Int)) (s6:Slot),j<m/\l=List.range' j (m - 1 - j)/\ao.length<=j/\g=fr s fl (.dat (.int m)) (.dat (.int w)) (.own (ao.map λx=>~~~x)) (.own (row.map .int)) s6 a7)
  (step:=λa l g h=>by
   obtain⟨j,ao,s6,h0,h1,h2,rfl⟩:=h;have Uu:j<m - 1:=by
    rcases t6 j (m - 1)with h |h
    . exact h
    . rw[An h]at h1;cases h1
   have hc:List.range' j (m - 1 - j)=j::List.range' (j+1) (m - 1 - (j+1)):=by rw[show m - 1 - j=(m - 1 - (j+1))+1 by lia,AJ]
   rw[hc]at h1;injection h1 with e1 e2;subst e1 e2;obtain⟨z,hz⟩:∃z:Int,z=1+(a:Int):=⟨_,rfl⟩;rw[<- hz];obtain⟨v,hv,h3⟩:∃v:Int,(0<=v/\v<m)/\L2.fy [D.int (z - 1),.int (z - 1),.int 0,.int (z / 2)] (w - 3)=some (.int v):=by
    have:w=3\/w=4\/w=5\/w=6:=by lia
    rcases this with rfl |rfl |rfl |rfl
    . exact⟨z - 1,by lia,rfl⟩
    . exact⟨z - 1,by lia,rfl⟩
    . exact⟨0,by lia,rfl⟩
    . exact⟨z / 2,by lia,rfl⟩
   have a1:L2.fy (row.map D.int) z=some (.int (gt row z)):=iK ⋯;have a2:L2.fy (row.map D.int) v=some (.int (gt row v)):=iK ⋯;have z2:ao.length<lim:=eD (y0 _) (au (ao.length+1) ⋯);refine⟨fr s fl (.dat (.int m)) (.dat (.int w)) (.own (ao.map λx=>~~~x)) (.own (row.map .int)) (.dat (.int z)) a7,fr s fl (.dat (.int m)) (.dat (.int w)) (.own ((ao++[cZ [gt row z,gt row v]]).map λx=>~~~x)) (.own (row.map .int)) (.dat (.int z)) a7,rfl,?_,a+1,_,_,by lia,rfl,by rw[eR,t8];lia,rfl⟩
   rw[tP];unfold fr Nh;simp! [U,a1,a2,h3,uc _ _ (show (0:Int)<2/\(2:Int)<1073741824 by decide),z7,z2,au 4 ⋯,au 2 ⋯]
   rfl)
 obtain⟨g',⟨j,ao,s6,h0,h1,h2,rfl⟩,h3⟩:=loop (List.range' 0 (m - 1)) (fr s fl (.dat (.int m)) (.dat (.int w)) (.own []) (.own (row.map .int)) a6 a7) ⟨0,[],a6,by lia,rfl,by simp,rfl⟩
 have hr:cL 1 (m - 1)=(List.range' 0 (m - 1)).map λ(x:Nat)=>D.int (1+(x:Int)):=by unfold cL;rw[wP]
 refine⟨ao,s6,by lia,?_⟩
 have e:((m:Int) - 1).toNat=m - 1:=by lia
 unfold fr at h3 ⊢
 simp! [U,Tg.ix,Tg.gH,eE,aX 1 ⋯,aX m ⋯,e,hr,h3]
theorem w6(s:Int)(fl:Bool)(m:Nat)(hm:1<=m/\m<=6)(w:Int)(row:List Int)(vZ:row.length=m)(ao:List (List Int))(ht:ao.length<=m)(a6 a7:Slot):∃(aB:List (List Int)),aH (rn (n+60)) [0] (k+3) Im (fr s fl (.dat (.int m)) (.dat (.int w)) (.own (ao.map λx=>~~~x)) (.own (row.map .int)) a6 a7)=some (.nx,fr s fl (.dat (.int m)) (.dat (.int w)) (.own (aB.map λx=>~~~x)) (.own (row.map .int)) a6 a7):=by
 by_cases h4:w=4
 .
  by_cases h5:(m:Int) > 2
  . have a1:L2.fy (row.map D.int) 0=some (.int (gt row 0)):=iK ⋯;have a2:L2.fy (row.map D.int) ((m:Int) - 1)=some (.int (gt row ((m:Int) - 1))):=iK ⋯;have z2:ao.length<lim:=eD (y0 _) (au (ao.length+1) ⋯);have h6:(2:Int)<m:=h5;refine⟨ao++[cZ [gt row 0,gt row ((m:Int) - 1)]],?_⟩;rw[tP];unfold fr Im;subst h4;simp! [U,a1,a2,h5,h6,z7,z2,au 2 ⋯];rfl
  . have h6 : ¬ (2:Int)<m:=h5;refine⟨ao,?_⟩;unfold fr Im;subst h4;simp! [U,h5,h6]
 . refine⟨ao,?_⟩;unfold fr Im;simp! [U,h4]
include hT hP in
theorem w7(s:Int)(fl:Bool)(m:Nat)(hm:1<=m/\m<=6)(a3 a4 a5 a6:Slot):∃(sub:List (List Int)) (s':Int),aH (rn (n+60)) [0] (k+3) (.set 7 (.comp 8 2 (.nm 9) (.call pi [(.slot 2)]) (Ni ti) (.slot 9))) (fr s fl (.dat (.int m)) a3 a4 a5 a6 .no)=some (.nx,fr s' fl (.dat (.int m)) a3 a4 a5 a6 (.own (sub.map λx=>~~~x))):=by
 have Ux:=λn k=>kL U (n:=n) (k:=k) m hm
 obtain⟨_,_,aL⟩:=iN hm;obtain⟨sub,s',h1,h2⟩:=O2 (rn:=rn (n+59)) (bor:=[0]) (k:=k+3) (kk:=2) (nn:=8) (j:=9) (it:=.call pi [(.slot 2)]) (c:=Ni ti) (s:=s) (g:=fr s fl (.dat (.int m)) a3 a4 a5 a6 .no) (prs m) (λx=>~~~x) (λs=>fr s fl (.dat (.int m)) a3 a4 a5 a6 .no) (λ_=>rfl) ⋯ ⋯ (by unfold fr;simp! [U,eE,hP,aZ (fx:=d9) rfl,Ux]) ⋯ (au _ ⋯) (λa _ s mm acc h1 h2=>by
   obtain⟨r,s',r1,r2,q⟩:=dM U (n:=n+37) (k:=k+2) (g:=gM (fr s fl (.dat (.int m)) a3 a4 a5 a6 .no) mm acc) (i:=0) (s:=s) (fl:=fl) (m:=12) rfl ⋯;have q':aU (rn (n+57)) bN (k+2) [.var 0,.dat (.int 12)] (gM (fr s fl (.dat (.int m)) a3 a4 a5 a6 .no) mm acc)=some (.dat (.int r),gM (fr s' fl (.dat (.int m)) a3 a4 a5 a6 .no) mm acc):=q;have g0:∀s,(gM (fr s fl (.dat (.int m)) a3 a4 a5 a6 .no) mm acc)[0]?=some (St s fl):=λ_=>rfl
   refine⟨decide (r=0),s',?_⟩;simp! [U,Ni,qo,hT,g0,q']) (λa _ s mm acc h1 h2=>sl9 U (n:=n+58) (nn:=8) rfl ⋯ h2)
 refine⟨sub,s',?_⟩;simp only[aH,U.e,aV,h2];simp[fr]
include hP in
theorem w8(s:Int)(fl:Bool)(m:Nat)(hm:1<=m/\m<=6)(ao odd:List (List Int))(a3 a5 a6:Slot):∃(sub:List (List Int)),sub.Sublist (prs m)/\aH (rn (n+60)) [0] (k+3) (.set 4 (.comp 8 2 (.nm 9) (.call pi [(.slot 2)]) Nj (.slot 9))) (fr s fl (.dat (.int m)) a3 (.own (ao.map λx=>~~~x)) a5 a6 (.own (odd.map λx=>~~~x)))=some (.nx,fr s fl (.dat (.int m)) a3 (.own (sub.map λx=>~~~x)) a5 a6 (.own (odd.map λx=>~~~x))):=by
 have Ux:=λn k=>kL U (n:=n) (k:=k) m hm
 obtain⟨_,_,aL⟩:=iN hm;have w:=rO (rn:=rn (n+59)) (bor:=[0]) (k:=k+3) (g:=fr s fl (.dat (.int m)) a3 (.own (ao.map λx=>~~~x)) a5 a6 (.own (odd.map λx=>~~~x))) (g1:=fr s fl (.dat (.int m)) a3 (.own (ao.map λx=>~~~x)) a5 a6 (.own (odd.map λx=>~~~x))) (kk:=2) (nn:=8) (j:=9) (it:=.call pi [(.slot 2)]) (c:=Nj) (e:=.slot 9) (prs m) (λx=>~~~x) (λx=>!(Np ao x==Np odd x)) (λx=>~~~x) (by unfold fr;simp! [U,eE,hP,aZ (fx:=d9) rfl,Ux]) rfl (by simp[fr]) (by simp[fr]) ⋯ (au _ ⋯)
  (λa _ G' hG=>by
   have h4:G'[4]?=some (.own (ao.map λx=>~~~x)):=hG.1 4 (by simp[fr])
   have h7:G'[7]?=some (.own (odd.map λx=>~~~x)):=hG.1 7 (by simp[fr])
   simp! [U,Nj,qo,hG.2,h4,h7,Uy,Uz])
  (λa _ _ G' hG=>by simp! [U,hG.2])
 refine⟨(prs m).filter λx=>!(Np ao x==Np odd x),List.filter_sublist,?_⟩
 simp only[aH,U.e,aV,w];simp[fr]
end
section
variable{ti pi mi:Nat}(U:uE fns rn)(hT:fns[ti]?=some bN)(hP:fns[pi]?=some d9)(hM:fns[mi]?=some (lR ti))
include U
include hT hP in
theorem w9(s:Int)(fl:Bool)(m:Nat)(hm:1<=m/\m<=6)(w:Int)(hw:0<=w/\w<7)(row:List Int)(vZ:row.length=m)(uq:List (List Int))(hs:uq.Sublist (prs m)):∃(sub:List (List Int)) (s':Int) (a6 a7:Slot),sub.Sublist (prs m)/\aH (rn (n+62)) [0] (k+3) (Nk ti pi) (fr s fl (.dat (.int m)) (.dat (.int w)) (.own (uq.map λx=>~~~x)) (.own (row.map .int)) .no .no)=some (.nx,fr s' fl (.dat (.int m)) (.dat (.int w)) (.own (sub.map λx=>~~~x)) (.own (row.map .int)) a6 a7):=by
 by_cases Oc:w > 2
 .
  obtain⟨t1,a6,h1,q1⟩:=w5 U (n:=n+1) (k:=k) s fl m hm w ⋯ row vZ .no .no;obtain⟨t2,q2⟩:=w6 U (n:=n+1) (k:=k) s fl m hm w row vZ t1 h1 a6 .no;obtain⟨odd,s',q3⟩:=w7 U hT hP (n:=n+1) (k:=k) s fl m hm (.dat (.int w)) (.own (t2.map λx=>~~~x)) (.own (row.map .int)) a6
  obtain⟨sub,h4,q4⟩:=w8 U hP (n:=n+1) (k:=k) s' fl m hm t2 odd (.dat (.int w)) (.own (row.map .int)) a6;refine⟨sub,s',a6,.own (odd.map λx=>~~~x),h4,?_⟩
  have ht:(rn (n+62)).t [0] (k+3) (.cmp .Gt (.slot 3) (.val (.int 2))) (fr s fl (.dat (.int m)) (.dat (.int w)) (.own (uq.map λx=>~~~x)) (.own (row.map .int)) .no .no)=some (true,fr s fl (.dat (.int m)) (.dat (.int w)) (.own (uq.map λx=>~~~x)) (.own (row.map .int)) .no .no):=by unfold fr;simp! [U,Oc]
  have q0:aH (rn (n+61)) [0] (k+3) (.set 4 (.lst [])) (fr s fl (.dat (.int m)) (.dat (.int w)) (.own (uq.map λx=>~~~x)) (.own (row.map .int)) .no .no)=some (.nx,fr s fl (.dat (.int m)) (.dat (.int w)) (.own []) (.own (row.map .int)) .no .no):=by unfold fr;simp! [U,U.e]
  unfold Nk;rw[aH];rw[ht];dsimp only;rw[U.b];rw[aG q0,aG q1,aG q2,aG q3,aG q4];rfl
 . refine⟨uq,s,.no,.no,hs,?_⟩;unfold fr Nk;simp! [U,Oc]
include hT hP hM in
theorem UG{i:Nat}{s:Int}{fl:Bool}(hi:g[i]?=some (St s fl)):∃(m:Nat) (ao:List (List Int)) (s':Int),(1<=m/\m<=6)/\Wb m ao/\aU (rn (n+80)) (yI ti pi mi) (k+3) [.var i,.dat (.int 6)] g=some (.dat (W m ao),g.set i (St s' fl)):=by
 obtain⟨m,s1,hm,q1⟩:=w1 U hT (n:=n+39) (k:=k) s fl;obtain⟨w,s2,hw,q2⟩:=w2 U hT (n:=n+39) (k:=k) s1 fl (.dat (.int m));obtain⟨uq,s3,h3,q3⟩:=w3 U hT hP (n:=n+19) (k:=k) s2 fl m hm w hw;obtain⟨row,s4,h4,q4⟩:=w4 U hT hM (n:=n+19) (k:=k) s3 fl m hm (.dat (.int w)) (.own (uq.map λx=>~~~x))
 obtain⟨sub,s5,a6,a7,h5,q5⟩:=w9 U hT hP (n:=n+17) (k:=k) s4 fl m hm w hw row h4 uq h3;obtain⟨p1,p2,p3⟩:=iN hm;have hso:=eY sub (λx hx=>by obtain⟨a,b,rfl,_⟩:=p1 x (h5.subset hx);exact List.cons_ne_nil _ _) (Nat.lt_of_le_of_lt (i5 h5.length_le p3) ⋯)
 refine⟨m,bK dF sub,s5,hm,Wb.Uw hm h5,?_⟩;have hp:dz (yI ti pi mi).n [St s fl,.dat (.int 6)]=fr s fl .no .no .no .no .no .no:=rfl;have body:(rn (n+80)).b [0] (k+3) (yI ti pi mi).body (fr s fl .no .no .no .no .no .no)=some (.rt (.dat (W m (bK dF sub))),fr s5 fl (.dat (.int m)) (.dat (.int w)) (.own (sub.map λx=>~~~x)) (.own (row.map .int)) a6 a7):=by unfold yI;rw[U.b,aG q1,aG q2,aG q3,aG q4,aG q5];unfold fr;simp! [U,hso,au 2 ⋯];rfl
 unfold aU;simp only[vars,cu,hi,List.map_cons,List.map_nil];rw[fN ⟨rfl,by simp⟩,hp,body]
 rfl
end
noncomputable def Io{α:Type}:List α->List α
 | []=>[]
 | [a]=>[a]
 |a::_::l=>a::Io l
theorem z8{α:Type}:∀l:List α,(Io l).Sublist l
 | []=>AE _
 | [a]=>AE _
 |a::b::l=>((z8 l).cons b).cons_cons a
theorem Ip{α:Type}:∀l:List α,((List.range ((l.length+1) / 2)).filterMap λm=>l[m * 2]?)=Io l
 | []=>by simp[Io]
 | [a]=>by simp[Io]
 |a::b::l=>by
  have h:=Ip l;rw[show ((a::b::l).length+1) / 2=(l.length+1) / 2+1 by simp only[l6];lia,List.range_succ_eq_map,l8]
  simp only[Nat.zero_mul,List.getElem?_cons_zero,List.filterMap_map];have e:((λm=>(a::b::l)[m * 2]?) ∘ Nat.succ)=λm=>l[m * 2]?:=by
   funext m
   show (a::b::l)[(m+1) * 2]?=_;rw[show (m+1) * 2=m * 2+1+1 by lia]
   simp
  rw[e,h];rfl
theorem ur{α:Type}(l:List α)(i:Nat):gF l i=Io (l.drop i):=by
 rw[<- Ip];unfold gF;rw[List.length_drop]
 congr 1
 funext m
 rw[List.getElem?_drop]
theorem z9{α β:Type}(f:α->β):∀l:List α,Io (l.map f)=(Io l).map f
 | []=>rfl
 | [a]=>rfl
 |a::b::l=>by simp only[List.map_cons,Io,z9 f l]
theorem Nq{α β:Type}(f:α->β)(l:List α)(i:Nat):gF (l.map f) i=(gF l i).map f:=by rw[ur,ur,<- List.map_drop,z9]
theorem Nr{α:Type}(l:List α)(i:Nat):(gF l i).Sublist l:=by rw[ur];exact (z8 _).trans (List.drop_sublist _ _)
def lZ(m:Nat)(ao:List (List Int)):List (List Int):=(prs m).filter λx=>!Np ao x
theorem Nt{m:Nat}(hm:1<=m/\m<=6):(prs m).Pairwise λx y=>HT.lexLt x y=true:=by
 obtain⟨h1,h2⟩:=hm
 match m,h1,h2 with
 | 1,_,_=>decide +kernel
 | 2,_,_=>decide +kernel
 | 3,_,_=>decide +kernel
 | 4,_,_=>decide +kernel
 | 5,_,_=>decide +kernel
 | 6,_,_=>decide +kernel
theorem Iq{m:Nat}(hm:1<=m/\m<=6)(ao:List (List Int)):Wb m (lZ m ao):=by obtain⟨h1,_,h3⟩:=iN hm;have s:(lZ m ao).Sublist (prs m):=List.filter_sublist;exact⟨λx hx=>h1 x (s.subset hx),(Nt hm).sublist s,i5 s.length_le h3⟩
theorem rW(l:List (List Int))(x:List Int):ez .NotIn (~~~x) (.tup (l.map λx=>~~~x))=some (!Np l x):=by
 have h:nu (~~~x) (l.map λx=>~~~x)=true:=by have:=lX l;simp only[nu,gZ,dH,lW,eC,hU,true_and];lia
 simp only[ez,cW,h,wS];rfl
theorem Wb.Nu{m:Nat}{l r:List (List Int)}(h:l.Sublist r)(hp:∀x∈r,Pr m x)(hn:r.Nodup)(hl:r.length<=15):Wb m (bK dF l):=by
 have hq:=cG (O:=dF) l;refine⟨λx hx=>hp x (h.subset (hq.mem_iff.mp hx)),fS (h.nodup hn),?_⟩
 rw[hq.length_eq];exact i5 h.length_le hl
end Ev
namespace L8
open Ev
def g6:List PySem.Addr:=[37]
def x6:Fx:=⟨1,1,[(.ret (.cz 1 3 (.nm 2) (.cR (.slot 0)) none (.nm 3) (.gW (.bin .Add (.slot 2) (.val (.int 1))) (.slot 0)) none (.tup [(.slot 2),(.slot 3)])))]⟩
def Dz:Fx:=⟨1,3,[(.expr (.call 5 [(.slot 0)])),(.tgt (.tp [1,2]) (.slot 0)),(.ret (.tup [(.slot 1),(.blt .tuple [(.comp 3 2 (.nm 4) (.call 6 [(.slot 1)]) (some (.cmp .NotIn (.slot 4) (.slot 2))) (.slot 4))])]))]⟩
noncomputable def O4:Fx:=⟨1,1,[(.ret (.call 8 [(.slot 0),(.call 11 [(.slot 0)])]))]⟩
noncomputable def VB:Fx:=⟨1,5,[(.set 1 (.lst [])),(.set 2 (.lst [])),(.loop (.nm 3) (.call 16 [(.blt .len [(.slot 0)])]) [(.set 4 (.lst [(.slot 3)])),(.while (.or [(.cmp .Lt (.blt .len [(.slot 4)]) (.val (.int 2))),(.cmp .NotEq (.ix (.slot 4) (.neg (.val (.int 1)))) (.slot 3))]) [(.expr (.append 4 (.blt .tuple [(.blt .sorted [(.lst [(.ix (.slot 0) (.ix (.ix (.slot 4) (.neg (.val (.int 1)))) (.val (.int 0)))),(.ix (.slot 0) (.ix (.ix (.slot 4) (.neg (.val (.int 1)))) (.val (.int 1))))])])])))]),(.ite (.cmp .NotIn (.slot 3) (.slot 2)) [(.expr (.append 1 (.blt .tuple [(.slice (.slot 4) none (some (.neg (.val (.int 1)))))])))] []),(.set 2 (.bin .Add (.slot 2) (.slot 4)))]),(.ret (.slot 1))]⟩
def VD:Fx:=⟨1,5,[(.set 1 (.val .non)),.stuck,(.set 3 (.lst [(.rJ (.slot 1) [(37,true)]),(.rJ (.slot 1) [(37,false)]),(.rJ (.slot 1) [(37,false)])])),(.set 3 (.bin .Add (.slot 3) (.lst [(.rJ (.slot 1) [(37,false)]),(.rJ (.slot 1) [(37,false)]),(.rJ (.slot 1) [(37,false)])]))),(.set 3 (.bin .Add (.slot 3) (.lst [(.rJ (.slot 1) [(37,false)]),(.rJ (.slot 1) [(37,false)]),(.rJ (.slot 1) [(37,false)])]))),(.expr (.append 3 (.rJ (.slot 1) [(37,false)]))),(.ite (.not (.rJ (.slot 1) [(37,true)])) [(.ret (.val .non))] []),(.setC 4 (.comp 5 2 (.nm 6) (.cR (.val (.int 10))) (some (.ix (.slot 3) (.slot 6))) (.slot 6))),(.ret (.ite (.cmp .Eq (.slot 4) (.lst [(.val (.int 9))])) .stk (.slot 4)))]⟩
def YW:Fx:=⟨1,1,[(.ret (.tup [(.ix (.slot 0) (.val (.int 0))),(.blt .tuple [(.comp 1 2 (.nm 2) (.call 16 [(.ix (.slot 0) (.val (.int 0)))]) (some (.cmp .NotIn (.slot 2) (.ix (.slot 0) (.val (.int 1))))) (.slot 2))])]))]⟩
def Aa:List Sm:=[(.set 2 (.bin .Add (.slot 2) (.blt .list [(.gF (.slot 3) (.call 15 [(.slot 0),(.val (.int 2))]))])))]
def Nv:Fx:=⟨1,5,[(.set 1 (.ix (.lst [(.tup [(.val (.int 1)),(.val (.int 2)),(.val (.int 3)),(.val (.int 0))]),(.tup [(.val (.int 1)),(.val (.int 2)),(.val (.int 3)),(.val (.int 0)),(.val (.int 4))]),(.tup [(.val (.int 0)),(.val (.int 2)),(.val (.int 3)),(.val (.int 4)),(.val (.int 1))]),(.tup [(.val (.int 0))]),(.call 19 [(.slot 0),(.val (.int 5))])]) (.call 15 [(.slot 0),(.val (.int 5))]))),(.set 2 (.lst [])),(.loop (.nm 3) (.call 22 [(.slot 1)]) Aa),(.set 4 (.call 19 [(.slot 0),(.blt .len [(.slot 1)])])),(.ret (.call 20 [(.tup [(.blt .len [(.slot 1)]),(.blt .tuple [(.blt .sorted [(.slot 2)])])]),(.slot 4)]))]⟩
def wk:List Sm:=[(.set 4 (.call 26 [(.slot 3)])),(.ite (.not (.peek (.call 24 [(.call 11 [(.slot 3)]),(.slot 4)]))) [(.ret (.val (.bl false)))] []),(.setC 5 (.comp 7 2 (.nm 8) (.call 21 [(.ix (.slot 3) (.val (.int 0)))]) (some (.cmp .Eq (.call 20 [(.slot 3),(.slot 8)]) (.slot 4))) (.slot 8))),(.ite (.not (.peek (.call 24 [(.call 12 [(.slot 3)]),(.ix (.bin .Add (.slot 5) (.lst [(.val .non)])) (.val (.int 0)))]))) [(.ret (.val (.bl false)))] [])]
noncomputable def wm:List Sm:=[(.set 2 (.call 14 [(.slot 0),(.slot 1)])),(.loop (.nm 3) (.lst [(.call 18 [(.slot 2),(.val (.int 6))]),(.call 27 [(.slot 2)])]) wk),(.set 6 (.call 23 [(.slot 2)])),(.ite (.cmp .NotEq (.gG 25 1 g6 (.call 11 [(.slot 6)])) (.lst [(.val (.int 0))])) [(.ret (.val (.bl false)))] []),(.ite (.cmp .NotEq (.gG 25 1 g6 (.call 12 [(.slot 6)])) (.lst [(.val (.int 0))])) [(.ret (.val (.bl false)))] [])]
def VF:Fx:=⟨1,7,[(.loop (.nm 1) (.cR (.blt .max [(.val (.int 1)),(.blt .min [(.blt .len [(.slot 0)]),(.val (.int 3))])])) wm),(.ret (.val (.bl true)))]⟩
def fns:List Fx:=[fc,fG 0,jK 1 3 4,jJ 1,yD,bx 2 0,x6,p9,qg 5 9,fh 7 10,qa,Dz,O4,mV,lT 13,bN,d9,lR 15,yI 15 16 17,jr 15 17,dI,gA,VB,bV 15,cV 24,VD,YW,Nv,VF]
theorem c0:fns[0]?=some (fc):=rfl
theorem c1:fns[1]?=some (fG 0):=rfl
theorem c2:fns[2]?=some (jK 1 3 4):=rfl
theorem c3:fns[3]?=some (jJ 1):=rfl
theorem c4:fns[4]?=some (yD):=rfl
theorem c5:fns[5]?=some (bx 2 0):=rfl
theorem c6:fns[6]?=some (x6):=rfl
theorem c7:fns[7]?=some (p9):=rfl
theorem c8:fns[8]?=some (qg 5 9):=rfl
theorem c9:fns[9]?=some (fh 7 10):=rfl
theorem c10:fns[10]?=some (qa):=rfl
theorem Z5:fns[11]?=some (Dz):=rfl
theorem c12:fns[12]?=some (O4):=rfl
theorem c13:fns[13]?=some (mV):=rfl
theorem c14:fns[14]?=some (lT 13):=rfl
theorem VG:fns[15]?=some (bN):=rfl
theorem c16:fns[16]?=some (d9):=rfl
theorem c17:fns[17]?=some (lR 15):=rfl
theorem c18:fns[18]?=some (yI 15 16 17):=rfl
theorem c19:fns[19]?=some (jr 15 17):=rfl
theorem c20:fns[20]?=some (dI):=rfl
theorem c21:fns[21]?=some (gA):=rfl
theorem c22:fns[22]?=some (VB):=rfl
theorem c23:fns[23]?=some (bV 15):=rfl
theorem Z6:fns[24]?=some (cV 24):=rfl
theorem c25:fns[25]?=some (VD):=rfl
theorem c26:fns[26]?=some (YW):=rfl
theorem c27:fns[27]?=some (Nv):=rfl
end L8
namespace L8
open Ev
section
variable{k n:Nat}{g g1:G}{rn:Nat->Rn}(U:uE fns rn)
include U
theorem mX(m:Nat)(hm:1<=m/\m<=6)(ao:List (List Int))(h:Wb m ao)(po:cB (rn (n+95)) (k+6) x6 [.int m]=some (.new ((prs m).map λx=>~~~x))):cB (rn (n+100)) (k+7) Dz [W m ao]=some (.dat (W m (lZ m ao))):=by
 obtain⟨_,_,aL⟩:=iN hm;have y:=λn k=>jL (ci:=0) U c0 c1 c3 c4 c2 (n:=n) (k:=k) m ao hm h
 have st:∀s1 s2,Tg.set (.tp [1,2]) (W m ao) [.dat (W m ao),s1,s2]=some [.dat (W m ao),.dat (.int m),.dat (.tup (ao.map λx=>~~~x))]:=λ_ _=>rfl
 have w:=rO (rn:=rn (n+96)) (bor:=[]) (k:=k+7) (g:=[.dat (W m ao),.dat (.int m),.dat (.tup (ao.map λx=>~~~x))]) (g1:=[.dat (W m ao),.dat (.int m),.dat (.tup (ao.map λx=>~~~x))]) (kk:=2) (nn:=3) (j:=4) (it:=.call 6 [(.slot 1)]) (c:=some (.cmp .NotIn (.slot 4) (.slot 2))) (e:=.slot 4) (prs m) (λx=>~~~x) (λx=>!Np ao x) (λx=>~~~x) (by simp! [U,eE,c6,aZ (fx:=x6) rfl,po]) rfl ⋯ ⋯ ⋯ (au _ ⋯)
  (λa _ G' hG=>by
   have h2:G'[2]?=some (.dat (.tup (ao.map λx=>~~~x))):=hG.1 2 ⋯
   simp! [U,qo,hG.2,h2,rW])
  (λa _ _ G' hG=>by simp! [U,hG.2])
 unfold cB Dz;simp! [U,c5,aZ (fx:=bx 2 0) rfl,y,Tg.ix,st,w,au 2 ⋯];rfl
theorem yJ(m:Nat)(hm:1<=m/\m<=6)(ao:List (List Int))(h:Wb m ao)(po:cB (rn (n+95)) (k+7) x6 [.int m]=some (.new ((prs m).map λx=>~~~x))):cB (rn (n+103)) (k+9) O4 [W m ao]=some (.dat (YS (led m ao m (lZ m ao)))):=by
 have q1:=mX U (n:=n) (k:=k+1) m hm ao h po;have q2:=λn k=>Il U c0 c1 c3 c4 c2 c5 c7 c10 c9 (n:=n) (k:=k) m m hm hm ao (lZ m ao) h (Iq hm ao)
 unfold cB O4;simp! [U,Z5,aZ (fx:=Dz) rfl,q1,c8,bU (fx:=qg 5 9) rfl,q2]
theorem Df(m:Nat)(hm:1<=m/\m<=6)(ao:List (List Int)):cB (rn (n+60)) (k+3) YW [W m ao]=some (.dat (W m (lZ m ao))):=by
 obtain⟨_,_,aL⟩:=iN hm;have Ux:=λn k=>kL U (n:=n) (k:=k) m hm
 have i0:vE (W m ao) (.int 0)=some (.int m):=rfl;have i1:vE (W m ao) (.int 1)=some (.tup (ao.map λx=>~~~x)):=rfl
 have w:=rO (rn:=rn (n+56)) (bor:=[]) (k:=k+3) (g:=[.dat (W m ao)]) (g1:=[.dat (W m ao)]) (kk:=2) (nn:=1) (j:=2) (it:=.call 16 [(.ix (.slot 0) (.val (.int 0)))]) (c:=some (.cmp .NotIn (.slot 2) (.ix (.slot 0) (.val (.int 1))))) (e:=.slot 2) (prs m) (λx=>~~~x) (λx=>!Np ao x) (λx=>~~~x) (by simp! [U,eE,i0,c16,aZ (fx:=d9) rfl,Ux]) rfl ⋯ ⋯ ⋯ (au _ ⋯)
  (λa _ G' hG=>by
   have h0:G'[0]?=some (.dat (W m ao)):=hG.1 0 ⋯;simp! [U,qo,hG.2,h0,i1,rW])
  (λa _ _ G' hG=>by simp! [U,hG.2])
 unfold cB YW;simp! [U,i0,w,au 2 ⋯];rfl
end
end L8
namespace L8
open Ev
structure Rk(m:Nat)(rows:List (List (List Int))):Prop where
 pr:∀x∈rows.flatten,Pr m x
 nd:rows.flatten.Nodup
 len:rows.flatten.length<=15
def fH:List (List Int):=[[1,2,3,0],[1,2,3,0,4],[0,2,3,4,1],[0]]++tY (nums 5)
section
variable{k n:Nat}{g g1:G}{rn:Nat->Rn}(U:uE fns rn)
include U
theorem Nx(PR:∀t∈fH,∃rows,(1<=t.length/\t.length<=6)/\Rk t.length rows/\cB (rn (n+98)) (k+3) VB [~~~t]=some (.new (rows.map λr=>.tup (r.map λx=>~~~x)))){i:Nat}{s:Int}{fl:Bool}(hi:g[i]?=some (St s fl)) :
  ∃(m:Nat) (ao:List (List Int)) (s':Int),(1<=m/\m<=6)/\Wb m ao/\aU (rn (n+100)) Nv (k+4) [.var i] g=some (.dat (W m ao),g.set i (St s' fl)):=by
 obtain⟨t5,s1,ht5,q1⟩:=z0 U VG c17 (n:=n+16) (k:=k+1) (g:=[St s fl,.no,.no,.no,.no]) (i:=0) (s:=s) (fl:=fl) 5 ⋯ rfl;have JZ:aU (rn (n+96)) (jr 15 17) (k+3) [.var 0,.dat (.int 5)] [St s fl,.no,.no,.no,.no]=some (.dat (~~~t5),[St s1 fl,.no,.no,.no,.no]):=q1;obtain⟨r,s2,r1,r2,q2⟩:=dM U (n:=n+77) (k:=k+3) (g:=[St s1 fl,.no,.no,.no,.no]) (i:=0) (s:=s1) (fl:=fl) (m:=5) rfl ⋯;have Fd:aU (rn (n+97)) bN (k+3) [.var 0,.dat (.int 5)] [St s1 fl,.no,.no,.no,.no]=some (.dat (.int r),[St s2 fl,.no,.no,.no,.no]):=q2;obtain⟨t,ht,ha⟩:∃t,t∈fH/\L2.fy [D.tup [.int 1,.int 2,.int 3,.int 0],.tup [.int 1,.int 2,.int 3,.int 0,.int 4],.tup [.int 0,.int 2,.int 3,.int 4,.int 1],.tup [.int 0],~~~t5] r=some (~~~t):=by
  have hr:r=0\/r=1\/r=2\/r=3\/r=4:=by lia
  unfold fH;rcases hr with rfl |rfl |rfl |rfl |rfl
  . exact⟨[1,2,3,0],by simp,rfl⟩
  . exact⟨[1,2,3,0,4],by simp,rfl⟩
  . exact⟨[0,2,3,4,1],by simp,rfl⟩
  . exact⟨[0],by simp,rfl⟩
  . exact⟨t5,i6 _ (mW ht5.perm),rfl⟩
 obtain⟨rows,hm,hR,q3⟩:=PR t ht;have e1:aH (rn (n+99)) [0] (k+4) (match Nv.body with |s::_=>s |_=>.stuck) [St s fl,.no,.no,.no,.no]=some (.nx,[St s2 fl,.dat (~~~t),.no,.no,.no]):=by unfold Nv;simp! [U,c19,JZ,VG,Fd,ha,au 4 ⋯,au 5 ⋯,au 1 ⋯]
 have e2:aH (rn (n+99)) [0] (k+4) (.set 2 (.lst [])) [St s2 fl,.dat (~~~t),.no,.no,.no]=some (.nx,[St s2 fl,.dat (~~~t),.own [],.no,.no]):=by simp! [U,au 0 ⋯]
 obtain⟨g',⟨dn,l,s3,a3,h1,h2,rfl⟩,h3⟩:=bT (T:=.nm 3) (b:=(rn (n+99)).b [0] (k+4) Aa) (λr:List (List Int)=>D.tup (r.map λx=>~~~x))
  (I:=λrest g=>∃(dn:List (List (List Int))) (l:List (List Int)) (s3:Int) (a3:Slot),rows=dn++rest/\l.Sublist dn.flatten/\g=[St s3 fl,.dat (~~~t),.own (l.map λx=>~~~x),a3,.no])
  (step:=λrow rest g h=>by
   obtain⟨dn,l,s3,a3,h1,h2,rfl⟩:=h;obtain⟨r,s4,r1,r2,q⟩:=dM U (n:=n+74) (k:=k+3) (g:=[St s3 fl,.dat (~~~t),.own (l.map λx=>~~~x),.dat (.tup (row.map λx=>~~~x)),.no]) (i:=0) (s:=s3) (fl:=fl) (m:=2) rfl ⋯
   have q':aU (rn (n+94)) bN (k+3) [.var 0,.dat (.int 2)] [St s3 fl,.dat (~~~t),.own (l.map λx=>~~~x),.dat (.tup (row.map λx=>~~~x)),.no]=some (.dat (.int r),[St s4 fl,.dat (~~~t),.own (l.map λx=>~~~x),.dat (.tup (row.map λx=>~~~x)),.no]):=q
   have sl:(l++gF row r.toNat).Sublist (dn++[row]).flatten:=by rw[CB,List.flatten_singleton];exact h2.append (Nr _ _)
   have z:(l++gF row r.toNat).length<=15:=by refine i5 sl.length_le ?_;have:=hR.len;rw[h1,CB,x5,eR,eR]at this;rw[CB,List.flatten_singleton,eR];lia
   have o:=nR (l.map λx=>~~~x) ((gF row r.toNat).map λx=>~~~x) (by rw[fR,fR,<- eR];lia)
   refine⟨[St s3 fl,.dat (~~~t),.own (l.map λx=>~~~x),.dat (.tup (row.map λx=>~~~x)),.no],[St s4 fl,.dat (~~~t),.own ((l++gF row r.toNat).map λx=>~~~x),.dat (.tup (row.map λx=>~~~x)),.no],rfl,?_,dn++[row],l++gF row r.toNat,s4,_,by rw[h1,AT];rfl,sl,rfl⟩
   rw[tP];unfold Aa;simp! [U,VG,q',r1,Nq,o]) rows [St s2 fl,.dat (~~~t),.own [],.no,.no] ⟨[],[],s2,.no,rfl,AE _,rfl⟩
 rw[mB]at h1;subst h1;have e3:aH (rn (n+99)) [0] (k+4) (.loop (.nm 3) (.call 22 [(.slot 1)]) Aa) [St s2 fl,.dat (~~~t),.own [],.no,.no]=some (.nx,[St s3 fl,.dat (~~~t),.own (l.map λx=>~~~x),a3,.no]):=by
  have hw:eE (rn (n+99)) [0] (k+4) false (.call 22 [(.slot 1)]) [St s2 fl,.dat (~~~t),.own [],.no,.no]=some (rows.map λr=>D.tup (r.map λx=>~~~x),[St s2 fl,.dat (~~~t),.own [],.no,.no]):=by unfold eE;simp! [U,c22,aZ (fx:=VB) rfl,q3]
  simp only[aH,Tg.ix,Tg.gH,hw,h3];simp
 obtain⟨nm,s5,hn,q5⟩:=z0 U VG c17 (n:=n+18) (k:=k+1) (g:=[St s3 fl,.dat (~~~t),.own (l.map λx=>~~~x),a3,.no]) (i:=0) (s:=s3) (fl:=fl) t.length hm rfl
 have q5':aU (rn (n+98)) (jr 15 17) (k+3) [.var 0,.dat (.int (t.length:Int))] [St s3 fl,.dat (~~~t),.own (l.map λx=>~~~x),a3,.no]=some (.dat (~~~nm),[St s5 fl,.dat (~~~t),.own (l.map λx=>~~~x),a3,.no]):=q5
 have e4:aH (rn (n+99)) [0] (k+4) (.set 4 (.call 19 [(.slot 0),(.blt .len [(.slot 1)])])) [St s3 fl,.dat (~~~t),.own (l.map λx=>~~~x),a3,.no]=some (.nx,[St s5 fl,.dat (~~~t),.own (l.map λx=>~~~x),a3,.dat (~~~nm)]):=by simp! [U,c19,q5']
 have hw:=Wb.Nu h2 hR.pr hR.nd hR.len;have q6:=λn k=>kK U (n:=n) (k:=k) t.length (bK dF l) nm hw hn
 have hl:l.length<=15:=i5 h2.length_le hR.len;have bs:=eY l (λx hx e=>by obtain⟨a,b,e',_⟩:=hR.pr x (h2.subset hx);rw[e']at e;cases e) ⋯
 have e5:aH (rn (n+99)) [0] (k+4) (.ret (.call 20 [(.tup [(.blt .len [(.slot 1)]),(.blt .tuple [(.blt .sorted [(.slot 2)])])]),(.slot 4)])) [St s5 fl,.dat (~~~t),.own (l.map λx=>~~~x),a3,.dat (~~~nm)]=some (.rt (.dat (W t.length (tw nm (bK dF l)))),[St s5 fl,.dat (~~~t),.own (l.map λx=>~~~x),a3,.dat (~~~nm)]):=by
  have hW:D.tup [.int (t.length:Int),.tup ((bK dF l).map λx=>~~~x)]=W t.length (bK dF l):=rfl
  simp! [U,bs,au 2 ⋯,hW,c20,bU (fx:=dI) rfl,q6]
 refine⟨t.length,tw nm (bK dF l),s5,hm,hw.turn hn,?_⟩;have hp:dz Nv.n [St s fl]=[St s fl,.no,.no,.no,.no]:=rfl;have body:(rn (n+100)).b [0] (k+4) Nv.body [St s fl,.no,.no,.no,.no]=some (.rt (.dat (W t.length (tw nm (bK dF l)))),[St s5 fl,.dat (~~~t),.own (l.map λx=>~~~x),a3,.dat (~~~nm)]):=by
  unfold Nv at e1 ⊢
  rw[U.b,aG e1,aG e2,aG e3,aG e4];unfold fE;rw[e5]
 unfold aU;simp only[vars,cu,hi,List.map_cons,List.map_nil];rw[fN ⟨rfl,by simp⟩,hp,body]
 rfl
end
end L8
namespace L8
open Ev
def YX(rn:Rn)(k:Nat)(C:Nat)(c:Int):Prop:=∃r g3,rn.b [] k (VD.body.drop 2) ((List.replicate VD.n .no).set 1 (.dat (.mz C)))=some (.rt r,g3)/\dj [] g3 r=some (.new [.int c])
structure Fk(rn:Nat->Rn)(n k:Nat):Prop where
 po1:∀m:Nat,1<=m/\m<=6->cB (rn (n+118)) (k+11) x6 [.int m]=some (.new ((prs m).map λx=>~~~x))
 po2:∀m:Nat,1<=m/\m<=6->cB (rn (n+115)) (k+10) x6 [.int m]=some (.new ((prs m).map λx=>~~~x))
 pr:∀t∈fH,∃rows,(1<=t.length/\t.length<=6)/\Rk t.length rows/\cB (rn (n+125)) (k+11) VB [~~~t]=some (.new (rows.map λr=>.tup (r.map λx=>~~~x)))
 Z1:∀d∈kJ,CW (rn (n+124)) (k+9) (bx 2 0) [d]=some 0
 bd2:∀d∈kJ,CW (rn (n+121)) (k+8) (bx 2 0) [d]=some 0
 a0:YX (rn (n+127)) (k+11) 37 0
theorem sd_W{m:Nat}{ao:List (List Int)}(h:Wb m ao):Sd 3 (W m ao):=by
 have hl:=h.len;refine⟨by simp,λx hx=>?_⟩
 simp only[d6,nN,A5]at hx;rcases hx with rfl |rfl
 . trivial
 .
  refine⟨by rw[fR];lia,λx hx=>?_⟩
  obtain⟨y,hy,rfl⟩:=i7.mp hx;obtain⟨a,b,rfl,_⟩:=h.tie y hy;exact⟨by simp,λx hx=>by obtain⟨i,_,rfl⟩:=i7.mp hx;trivial⟩
theorem YZ(l:List (List Int)):L2.fy ((l.map λr=>~~~r)++[.non]) 0=some (YS l):=by show L2.fy _ ((0:Nat):Int)=_;rw[gI _ _ ⋯];cases l <;> rfl
section
variable{k n:Nat}{g g1:G}{rn:Nat->Rn}(U:uE fns rn)(F:Fk rn n k)
include U F
theorem Y0(m:Nat)(hm:1<=m/\m<=6)(ao:List (List Int))(h:Wb m ao)(a0 a1 a2 a4 a5 a6:Slot):∃b4 b5,(rn (n+129)).b [] (k+13) wk [a0,a1,a2,.dat (W m ao),a4,a5,a6]=some (.nx,[a0,a1,a2,.dat (W m ao),b4,b5,a6]):=by
 obtain⟨tl,tn⟩:=p7 hm;have ho:=Iq hm ao;have q1:=λn k=>Df U (n:=n) (k:=k) m hm ao
 have e1:aH (rn (n+128)) [] (k+13) (.set 4 (.call 26 [(.slot 3)])) [a0,a1,a2,.dat (W m ao),a4,a5,a6]=some (.nx,[a0,a1,a2,.dat (W m ao),.dat (W m (lZ m ao)),a5,a6]):=by simp! [U,c26,aZ (fx:=YW) rfl,q1]
 have q2:=mX U (n:=n+23) (k:=k+5) m hm ao h (F.po1 m hm);have q3:=λn k=>ud U Z6 3 n k _ (sd_W ho)
 simp only[Nat.reduceMul,Nat.add_assoc,Nat.reduceAdd]at q3;have hz:∀d:D,List.map jv [a0,a1,a2,.dat (W m ao),.dat d,a5,a6]=[jv a0,jv a1,jv a2,.dat (W m ao),.dat d,jv a5,jv a6]:=λ_=>rfl
 have e2:aH (rn (n+128)) [] (k+13) (.ite (.not (.peek (.call 24 [(.call 11 [(.slot 3)]),(.slot 4)]))) [(.ret (.val (.bl false)))] []) [a0,a1,a2,.dat (W m ao),.dat (W m (lZ m ao)),a5,a6]=some (.nx,[a0,a1,a2,.dat (W m ao),.dat (W m (lZ m ao)),a5,a6]):=by simp! [U,hz,Z5,aZ (fx:=Dz) rfl,q2,Z6,bU (fx:=cV 24) rfl,q3,flat]
 have i0:vE (W m ao) (.int 0)=some (.int m):=rfl;have q4:=λn k=>wg U (n:=n) (k:=k) m hm
 have w3:=rO (rn:=rn (n+128)) (bor:=[]) (k:=k+13) (g:=[a0,a1,a2,.dat (W m ao),.dat (W m (lZ m ao)),a5,a6]) (g1:=[a0,a1,a2,.dat (W m ao),.dat (W m (lZ m ao)),a5,a6]) (kk:=2) (nn:=7) (j:=8) (it:=.call 21 [(.ix (.slot 3) (.val (.int 0)))]) (c:=some (.cmp .Eq (.call 20 [(.slot 3),(.slot 8)]) (.slot 4))) (e:=.slot 8) (turnsOf m) (λr=>~~~r) (λt=>decide (m=m/\tw t ao=lZ m ao)) (λr=>~~~r) (by simp! [U,eE,i0,c21,aZ (fx:=gA) rfl,q4]) rfl ⋯ ⋯ ⋯ (au _ ⋯)
  (λt ht G' hG=>by
   have h3:G'[3]?=some (.dat (W m ao)):=hG.1 3 ⋯;have h4:G'[4]?=some (.dat (W m (lZ m ao))):=hG.1 4 ⋯;have q:=λn k=>kK U (n:=n) (k:=k) m ao t h (tl t ht)
   have cq:ez .Eq (W m (tw t ao)) (W m (lZ m ao))=some (decide (tw t ao=lZ m ao)):=by
    show (if fP _ _=true then some (bO _ _)else none)=_
    rw[fN (Ul _ _ _ _),YK]
   simp! [U,qo,hG.2,h3,h4,c20,bU (fx:=dI) rfl,q,cq])
  (λt _ _ G' hG=>by simp! [U,hG.2])
 have e3:aH (rn (n+128)) [] (k+13) (.setC 5 (.comp 7 2 (.nm 8) (.call 21 [(.ix (.slot 3) (.val (.int 0)))]) (some (.cmp .Eq (.call 20 [(.slot 3),(.slot 8)]) (.slot 4))) (.slot 8))) [a0,a1,a2,.dat (W m ao),.dat (W m (lZ m ao)),a5,a6]=some (.nx,[a0,a1,a2,.dat (W m ao),.dat (W m (lZ m ao)),.own ((led m ao m (lZ m ao)).map λr=>~~~r),a6]):=by simp only[aH,w3];simp[led]
 have ll:(led m ao m (lZ m ao)).length<=720:=i5 (u7 _ _) tn;have sd:Sd 1 (YS (led m ao m (lZ m ao))):=by
  cases e:led m ao m (lZ m ao)with
  |nil=>trivial
  |cons t l=>
   have ht:t∈turnsOf m:=by
    have:t∈led m ao m (lZ m ao):=by rw[e];exact dA
    exact (i8.mp this).1
   have:=(tl t ht).length;exact⟨by rw[fR];lia,λx hx=>by obtain⟨i,_,rfl⟩:=i7.mp hx;trivial⟩
 have q5:=yJ U (n:=n+20) (k:=k+3) m hm ao h (F.po2 m hm);have q6:=λn k=>ud U Z6 1 n k _ sd
 simp only[Nat.reduceMul,Nat.add_assoc,Nat.reduceAdd]at q6;have o:=nR ((led m ao m (lZ m ao)).map λr=>~~~r) [.non] (by rw[fR];simp only[l6,AO];lia)
 have hd:=YZ (led m ao m (lZ m ao));generalize hD:YS (led m ao m (lZ m ao))=dd at q5 q6 hd;generalize hL:((led m ao m (lZ m ao)).map λr=>~~~r)=ls at e3 o hd
 generalize W m (lZ m ao)=wo at e1 e2 e3;have hz2:List.map jv [a0,a1,a2,.dat (W m ao),.dat wo,.own ls,a6]=[jv a0,jv a1,jv a2,.dat (W m ao),.dat wo,.dat (.lst ls),jv a6]:=rfl;have e4:aH (rn (n+128)) [] (k+13) (.ite (.not (.peek (.call 24 [(.call 12 [(.slot 3)]),(.ix (.bin .Add (.slot 5) (.lst [(.val .non)])) (.val (.int 0)))]))) [(.ret (.val (.bl false)))] []) [a0,a1,a2,.dat (W m ao),.dat wo,.own ls,a6]=some (.nx,[a0,a1,a2,.dat (W m ao),.dat wo,.own ls,a6]):=by simp! [U,hz2,c12,aZ (fx:=O4) rfl,q5,o,hd,au 1 ⋯,Z6,bU (fx:=cV 24) rfl,q6,flat]
 refine⟨.dat wo,.own ls,?_⟩;unfold wk;rw[U.b,aG e1,aG e2,aG e3,aG e4];rfl
theorem cell(ns:List Int)(hl:ns.length<=63)(j:Nat)(a2 a3 a4 a5 a6:Slot):∃b2 b3 b4 b5 b6,(rn (n+130)).b [] (k+13) wm [.dat (.fix (ns.map .int)),.dat (.int j),a2,a3,a4,a5,a6]=some (.nx,[.dat (.fix (ns.map .int)),.dat (.int j),b2,b3,b4,b5,b6]):=by
 obtain⟨s,fl,q1⟩:=Ib U c13 (n:=n+88) (k:=k+11) ns ⋯ j;generalize hA0:Slot.dat (.fix (ns.map .int))=A0;generalize hA1:Slot.dat (.int (j:Int))=A1;have e1:aH (rn (n+129)) [] (k+13) (.set 2 (.call 14 [(.slot 0),(.slot 1)])) [A0,A1,a2,a3,a4,a5,a6]=some (.nx,[A0,A1,St s fl,a3,a4,a5,a6]):=by subst hA0 hA1;simp! [U,c14,bU (fx:=lT 13) rfl,q1]
 obtain⟨m,ao,s1,hm,h,q2⟩:=UG U VG c16 c17 (n:=n+47) (k:=k+9) (g:=[A0,A1,St s fl,a3,a4,a5,a6]) (i:=2) (s:=s) (fl:=fl) rfl;have Fd:aU (rn (n+127)) (yI 15 16 17) (k+12) [.var 2,.dat (.int 6)] [A0,A1,St s fl,a3,a4,a5,a6]=some (.dat (W m ao),[A0,A1,St s1 fl,a3,a4,a5,a6]):=q2;obtain⟨m',aB,s2,hm',h',q3⟩:=Nx U (n:=n+27) (k:=k+8) F.pr (g:=[A0,A1,St s1 fl,a3,a4,a5,a6]) (i:=2) (s:=s1) (fl:=fl) rfl;have Zv:aU (rn (n+127)) Nv (k+12) [.var 2] [A0,A1,St s1 fl,a3,a4,a5,a6]=some (.dat (W m' aB),[A0,A1,St s2 fl,a3,a4,a5,a6]):=q3;have hw:eE (rn (n+129)) [] (k+13) false (.lst [(.call 18 [(.slot 2),(.val (.int 6))]),(.call 27 [(.slot 2)])]) [A0,A1,St s fl,a3,a4,a5,a6]=some ([W m ao,W m' aB],[A0,A1,St s2 fl,a3,a4,a5,a6]):=by unfold eE;simp! [U,c18,Fd,c27,Zv,au 2 ⋯]
 obtain⟨b4,b5,w1⟩:=Y0 U F m hm ao h A0 A1 (St s2 fl) a4 a5 a6;obtain⟨d4,d5,w2⟩:=Y0 U F m' hm' aB h' A0 A1 (St s2 fl) b4 b5 a6;have e2:aH (rn (n+129)) [] (k+13) (.loop (.nm 3) (.lst [(.call 18 [(.slot 2),(.val (.int 6))]),(.call 27 [(.slot 2)])]) wk) [A0,A1,St s fl,a3,a4,a5,a6]=some (.nx,[A0,A1,St s2 fl,.dat (W m' aB),d4,d5,a6]):=by generalize hb:(rn (n+129)).b [] (k+13) wk=bb at w1 w2;simp only[aH,Tg.ix,Tg.gH,hw,hb];simp[jo,Tg.set,w1,w2]
 obtain⟨b,s3,hb,q8⟩:=Dc U VG (n:=n+68) (k:=k+11) (g:=[A0,A1,St s2 fl,.dat (W m' aB),d4,d5,a6]) (i:=2) (s:=s2) (fl:=fl) rfl;have q8':aU (rn (n+128)) (bV 15) (k+12) [.var 2] [A0,A1,St s2 fl,.dat (W m' aB),d4,d5,a6]=some (.dat b,[A0,A1,St s3 fl,.dat (W m' aB),d4,d5,a6]):=q8;have e3:aH (rn (n+129)) [] (k+13) (.set 6 (.call 23 [(.slot 2)])) [A0,A1,St s2 fl,.dat (W m' aB),d4,d5,a6]=some (.nx,[A0,A1,St s3 fl,.dat (W m' aB),d4,d5,.dat b]):=by simp! [U,c23,q8']
 generalize Slot.dat (W m' aB)=A3 at e2 e3;generalize St s3 fl=A2 at e3;have y1:=F.Z1 b hb;have y2:=F.bd2 b hb;obtain⟨r,g3,f1,f2⟩:=F.a0;have nz:List.map noOwn [A0,A1,A2,A3,d4,d5,.dat b]=[noOwn A0,noOwn A1,noOwn A2,noOwn A3,noOwn d4,noOwn d5,.dat b]:=rfl;have z1:CW (rn (n+126)) (k+10) Dz [b]=some 0:=by unfold CW Dz;simp! [U,c5,kF (fx:=bx 2 0) rfl,y1]
 have z2:CW (rn (n+123)) (k+9) Dz [b]=some 0:=by unfold CW Dz;simp! [U,c5,kF (fx:=bx 2 0) rfl,y2]
 have z3:CW (rn (n+126)) (k+10) O4 [b]=some 0:=by unfold CW O4;simp! [U,Z5,kF (fx:=Dz) rfl,z2]
 have x1:(rn (n+127)).x [] (k+11) (.call 11 [(.slot 6)]) (List.map noOwn [A0,A1,A2,A3,d4,d5,.dat b])=some (0,[noOwn A0,noOwn A1,noOwn A2,noOwn A3,noOwn d4,noOwn d5,.dat b]):=by rw[nz];simp! [U,Z5,kF (fx:=Dz) rfl,z1]
 have x2:(rn (n+127)).x [] (k+11) (.call 12 [(.slot 6)]) (List.map noOwn [A0,A1,A2,A3,d4,d5,.dat b])=some (0,[noOwn A0,noOwn A1,noOwn A2,noOwn A3,noOwn d4,noOwn d5,.dat b]):=by rw[nz];simp! [U,c12,kF (fx:=O4) rfl,z3]
 have hc:g6[0]?=some 37:=rfl;have r1:(rn (n+128)).e [] (k+13) (.gG 25 1 g6 (.call 11 [(.slot 6)])) [A0,A1,A2,A3,d4,d5,.dat b]=some (.new [.int 0],[A0,A1,A2,A3,d4,d5,.dat b]):=by rw[U.e];simp only[aV,c25,x1,hc,f1,f2]
 have r2:(rn (n+128)).e [] (k+13) (.gG 25 1 g6 (.call 12 [(.slot 6)])) [A0,A1,A2,A3,d4,d5,.dat b]=some (.new [.int 0],[A0,A1,A2,A3,d4,d5,.dat b]):=by rw[U.e];simp only[aV,c25,x2,hc,f1,f2]
 have ll:(rn (n+128)).e [] (k+13) (.lst [(.val (.int 0))]) [A0,A1,A2,A3,d4,d5,.dat b]=some (.new [.int 0],[A0,A1,A2,A3,d4,d5,.dat b]):=by simp! [U,au 1 ⋯]
 have cm:ez .NotEq (.lst [.int 0]) (.lst [.int 0])=some false:=yz [0] [0];have e4:aH (rn (n+129)) [] (k+13) (.ite (.cmp .NotEq (.gG 25 1 g6 (.call 11 [(.slot 6)])) (.lst [(.val (.int 0))])) [(.ret (.val (.bl false)))] []) [A0,A1,A2,A3,d4,d5,.dat b]=some (.nx,[A0,A1,A2,A3,d4,d5,.dat b]):=by simp only[aH,U.t,stepT,argsR,r1,ll,norm,pk,cm,U.b,fE]
 have e5:aH (rn (n+129)) [] (k+13) (.ite (.cmp .NotEq (.gG 25 1 g6 (.call 12 [(.slot 6)])) (.lst [(.val (.int 0))])) [(.ret (.val (.bl false)))] []) [A0,A1,A2,A3,d4,d5,.dat b]=some (.nx,[A0,A1,A2,A3,d4,d5,.dat b]):=by simp only[aH,U.t,stepT,argsR,r2,ll,norm,pk,cm,U.b,fE]
 refine⟨A2,A3,d4,d5,.dat b,?_⟩;unfold wm;rw[U.b,aG e1,aG e2,aG e3,aG e4,aG e5];rfl
theorem whole(ns:List Int)(hl:ns.length<=63):∃g',(rn (n+131)).b [] (k+13) VF.body [.dat (.fix (ns.map .int)),.no,.no,.no,.no,.no,.no]=some (.rt (.dat (.bl true)),g'):=by
 have loop:=bT (T:=.nm 1) (b:=(rn (n+130)).b [] (k+13) wm) (λ(j:Nat)=>D.int (0+(j:Int)))
  (I:=λ(l:List Nat) g=>∃(s1 s2 s3 s4 s5 s6:Slot),g=[.dat (.fix (ns.map .int)),s1,s2,s3,s4,s5,s6])
  (step:=λa l g h=>by
   obtain⟨s1,s2,s3,s4,s5,s6,rfl⟩:=h;rw[CI];obtain⟨b2,b3,b4,b5,b6,q⟩:=cell U F ns hl a s2 s3 s4 s5 s6;exact⟨_,_,rfl,q,_,_,_,_,_,_,rfl⟩)
 obtain⟨M,hM,hM2⟩:∃M:Nat,M<=3/\(if ((if (3:Int)<ns.length then 3 else (ns.length:Int))) > 1 then (if (3:Int)<ns.length then 3 else (ns.length:Int))else 1)=(M:Int):=by
  refine⟨(if ((if (3:Int)<ns.length then 3 else (ns.length:Int))) > 1 then (if (3:Int)<ns.length then 3 else (ns.length:Int))else 1).toNat,?_,?_⟩
  . split <;> (try split) <;> lia
  . split <;> (try split) <;> lia
 obtain⟨g2,⟨s1,s2,s3,s4,s5,s6,rfl⟩,h4⟩:=loop (List.range M) [.dat (.fix (ns.map .int)),.no,.no,.no,.no,.no,.no] ⟨_,_,_,_,_,_,rfl⟩;have hv:eX (rn (n+130)) [] (k+13) (.blt .max [(.val (.int 1)),(.blt .min [(.blt .len [(.slot 0)]),(.val (.int 3))])]) [.dat (.fix (ns.map .int)),.no,.no,.no,.no,.no,.no]=some (.int (M:Int),[.dat (.fix (ns.map .int)),.no,.no,.no,.no,.no,.no]):=by rw[<- hM2];simp! [U,pX]
 have hw:eE (rn (n+130)) [] (k+13) false (.cR (.blt .max [(.val (.int 1)),(.blt .min [(.blt .len [(.slot 0)]),(.val (.int 3))])])) [.dat (.fix (ns.map .int)),.no,.no,.no,.no,.no,.no]=some ((List.range M).map λ(x:Nat)=>D.int (0+(x:Int)),[.dat (.fix (ns.map .int)),.no,.no,.no,.no,.no,.no]):=by unfold eE;dsimp only;rw[hv];dsimp only;rw[fN (aX M ⋯),pE];rfl
 have e1:aH (rn (n+130)) [] (k+13) (.loop (.nm 1) (.cR (.blt .max [(.val (.int 1)),(.blt .min [(.blt .len [(.slot 0)]),(.val (.int 3))])])) wm) [.dat (.fix (ns.map .int)),.no,.no,.no,.no,.no,.no]=some (.nx,[.dat (.fix (ns.map .int)),s1,s2,s3,s4,s5,s6]):=by simp only[aH,Tg.ix,Tg.gH,hw,h4];simp
 refine⟨[.dat (.fix (ns.map .int)),s1,s2,s3,s4,s5,s6],?_⟩;unfold VF;rw[U.b,aG e1];simp! [U,U.e]
end
end L8
namespace L8
open Ev
theorem wu:∀{l:List D}{ns:List Int},cJ l=some ns->l=ns.map .int
 | [],ns,h=>by cases h;rfl
 |d::l,ns,h=>by
  cases d with
  |int i=>
   unfold cJ at h;cases e:cJ l with
   |none=>rw[e]at h;cases h
   |some ms=>rw[e]at h;cases h;rw[wu e];rfl
  |_=>cases h
theorem qh:∀{l:List D}{ts:List (List Int)},iC l=some ts->l=ts.map λx=>~~~x
 | [],ts,h=>by cases h;rfl
 |d::l,ts,h=>by
  cases d with
  |tup x=>
   unfold iC at h;split at h
   . rename_i n ns dO e1 e2;cases h;rw[qh e2,wu e1];rfl
   . cases h
  |_=>cases h
def Z7:List D->Option (List (List (List Int)))
 | []=>some []
 |.tup l::ds=>match iC l with
  |some r=>(match Z7 ds with |some rs=>some (r::rs) |none=>none)
  |none=>none
 |_=>none
theorem Ir{l:List D}{rs:List (List (List Int))}(h:Z7 l=some rs):l=rs.map λr=>.tup (r.map λx=>~~~x):=by
 induction l generalizing rs with
 |nil=>cases h;rfl
 |cons d l ih=>
  cases d with
  |tup m=>
   unfold Z7 at h;split at h
   .
    rename_i r e1;split at h
    . rename_i rs' e2;cases h;rw[ih e2,qh e1];rfl
    . cases h
   . cases h
  |_=>cases h
def Z8(m:Nat)(r:Option R):Bool:=match r with |some (.new l)=>(match iC l with |some ts=>decide (ts=prs m) |none=>false) |_=>false
theorem Iu{m:Nat}{r:Option R}(h:Z8 m r=true):r=some (.new ((prs m).map λx=>~~~x)):=by
 unfold Z8 at h;split at h
 .
  split at h
  . rename_i l ts e;rw[qh e,lS h]
  . cases h
 . cases h
noncomputable def prB(m:Nat)(x:List Int):Bool:=match x with | [a,b]=>decide (0<=a/\a<b/\b<m) |_=>false
theorem UJ{m:Nat}{x:List Int}(h:prB m x=true):Pr m x:=by
 unfold prB at h;split at h
 . rename_i a b;exact⟨a,b,rfl,lS h⟩
 . cases h
def okR(t:List Int)(r:Option R):Bool:=match r with
 |some (.new l)=>(match Z7 l with
  |some rows=>decide (1<=t.length/\t.length<=6)&&(rows.flatten.all (prB t.length)&&(decide rows.flatten.Nodup&&decide (rows.flatten.length<=15)))
  |none=>false)
 |_=>false
theorem UL{t:List Int}{r:Option R}(h:okR t r=true):∃rows,(1<=t.length/\t.length<=6)/\Rk t.length rows/\r=some (.new (rows.map λr=>.tup (r.map λx=>~~~x))):=by
 unfold okR at h;split at h
 .
  rename_i l;split at h
  . rename_i rows e2;simp only[eC,hU]at h;exact⟨rows,h.1,⟨λx hx=>UJ (hZ.mp h.2.1 x hx),h.2.2.1,h.2.2.2⟩,by rw[Ir e2]⟩
  . cases h
 . cases h
def wz(t:List Int):Bool:=okR t (cB (run fns (0+125)) (0+11) VB [~~~t])
theorem ev0:((fH.drop 0).take 34).all wz=true:=by decide +kernel
theorem ev1:((fH.drop 34).take 30).all wz=true:=by decide +kernel
theorem Io:((fH.drop 64).take 30).all wz=true:=by decide +kernel
theorem ev3:((fH.drop 94).take 30).all wz=true:=by decide +kernel
theorem Iv:fH=(fH.drop 0).take 34++((fH.drop 34).take 30++((fH.drop 64).take 30++(fH.drop 94).take 30)):=by decide +kernel
theorem UT{t:List Int}(h:t∈fH):wz t=true:=by
 rw[Iv]at h;simp only[AB]at h;rcases h with h |h |h |h
 . exact hZ.mp ev0 t h
 . exact hZ.mp ev1 t h
 . exact hZ.mp Io t h
 . exact hZ.mp ev3 t h
def Z9:List Nat:=[1,2,3,4,5,6]
theorem Y3{j:Nat}(h:1<=j/\j<=6):j∈Z9:=by unfold Z9;simp only[d6,nN,A5];lia
theorem p1:(Z9.all λj=>Z8 j (cB (run fns (0+118)) (0+11) x6 [.int j]))=true:=by decide +kernel
theorem p2:(Z9.all λj=>Z8 j (cB (run fns (0+115)) (0+10) x6 [.int j]))=true:=by decide +kernel
theorem uf:(kJ.all λd=>decide (CW (run fns (0+124)) (0+9) (bx 2 0) [d]=some 0))=true:=by decide +kernel
theorem ug:(kJ.all λd=>decide (CW (run fns (0+121)) (0+8) (bx 2 0) [d]=some 0))=true:=by decide +kernel
def rfB(rn:Rn)(k:Nat)(C:Nat)(c:Int):Bool:=match rn.b [] k (VD.body.drop 2) ((List.replicate VD.n .no).set 1 (.dat (.mz C)))with
 |some (.rt r,g3)=>(match dj [] g3 r with |some (.new [.int c'])=>decide (c'=c) |_=>false)
 |_=>false
theorem UW{rn:Rn}{k C:Nat}{c:Int}(h:rfB rn k C c=true):YX rn k C c:=by
 unfold rfB at h;split at h
 .
  rename_i r g3 e;split at h
  . rename_i c' e2;rw[lS h]at e2;exact⟨r,g3,e,e2⟩
  . cases h
 . cases h
theorem U0:Fk (run fns) 0 0:=⟨λm hm=>Iu (hZ.mp p1 m (Y3 hm)),λm hm=>Iu (hZ.mp p2 m (Y3 hm)),λt ht=>UL (UT ht),
 λd hd=>lS (hZ.mp uf d hd),λd hd=>lS (hZ.mp ug d hd),UW (by decide +kernel)⟩
def kk:Nat:=13
def fuel:Nat:=131
theorem hev(ns:List Int)(hl:ns.length<=63):∃g',(run fns fuel).b [] kk VF.body (dz 7 [.dat (.fix (ns.map .int))])=some (.rt (.dat (.bl true)),g'):=whole (MN fns) U0 ns hl
end L8
namespace Ev
open L2
def Y4:Value->Bool
 |.str _ _=>true
 |_=>false
def Ny:Value->Bool
 |.int _ _=>true
 |_=>false
def O5:Value->Bool
 |.bool _=>true
 |_=>false
noncomputable def Nz(n:String):Value->Bool
 |.type m=>decide (m=n)
 |_=>false
noncomputable def U1(q:Addr):Option Value->Bool
 |some (.ref p)=>decide (p=q)
 |_=>false
theorem uv{n:String}{v:Value}(h:Nz n v=true):v=.type n:=by
 unfold Nz at h;split at h
 . rw[lS h]
 . cases h
theorem NB{q:Addr}{v:Option Value}(h:U1 q v=true):v=some (.ref q):=by
 unfold U1 at h;split at h
 . rw[lS h]
 . cases h
def codeOk(K:Frag)(c q:Addr):Bool:=match K.lookup c with
 |some o=>(match o.data with
  |.fields vs=>Nz "code" o.cls&&U1 q vs[11]?&&Y4 (vs.getD 18 .none)&&Ny (vs.getD 7 .none)&&O5 (vs.getD 9 .none)&&Ny (vs.getD 10 .none)&&decide (c≠q)
  |_=>false)
 |none=>false
theorem rX{K:Frag}{h:Heap}{c q:Addr}(X:K.In h)(e:codeOk K c q=true):PySem.W.CodeHd h c q/\∃o vs,h.get? c=some o/\o.cls=.type "code" /\o.data=.fields vs/\vs[11]?=some (.ref q):=by
 unfold codeOk at e;split at e
 .
  rename_i o ho;split at e
  .
   rename_i vs hv;simp only[eC,hU]at e;obtain⟨⟨⟨⟨⟨⟨e1,e2⟩,e3⟩,e4⟩,e5⟩,e6⟩,e7⟩:=e;have r:=NB e2;have d:vs.getD 11 .none=.ref q:=by rw[yA,r];rfl
   unfold Y4 at e3;split at e3
   .
    rename_i file tf h3;unfold Ny at e4;split at e4
    .
     rename_i fl tg h4;unfold O5 at e5;split at e5
     .
      rename_i b h5;unfold Ny at e6;split at e6
      . rename_i tx tt h6;exact⟨⟨o,vs,file,tf,fl,tg,b,tx,tt,X _ _ ho,uv e1,hv,r,d,h3,h4,h5,h6,e7⟩,o,vs,X _ _ ho,uv e1,hv,r⟩
      . cases e6
     . cases e5
    . cases e4
   . cases e3
  . cases e
 . cases e
def Iw(K:Frag)(c:Addr):Bool:=K.all λp=>decide (p.1=c)||!PySem.W.codeIn [p] (.ref p.1) "law"
theorem lookup_mem{β:Type}:∀{l:List (Addr×β)}{a:Addr}{b:β},l.lookup a=some b->(a,b)∈l
 | [],_,_,h=>by cases h
 | (x,y)::l,a,b,h=>by
  rw[o0]at h;by_cases e:a=x
  . subst e;simp at h;subst h;exact dA
  .
   have:(a==x)=false:=by simpa using e
   rw[this]at h;exact a9 _ (lookup_mem h)
noncomputable def U3(K:Frag)(bm q:Addr):Bool:=match K.lookup bm with
 |some ⟨c,some d,.plain,_⟩=>Nz "module" c&&decide (d=builtinsNs)&&decide (bm≠builtinsNs)&&decide (bm≠mainGlobals)&&decide (bm≠q)
 |_=>false
theorem U4{K:Frag}{mg:Str->Option Value}{h:Heap}{c q bm:Addr}(X:K.In h)(G:h.Ns mainGlobals mg)(e1:Iw K c=true)(e2:codeOk K c q=true)(e3:cE K=[(q,ji)])(e4:PySem.W.nsIn K mainGlobals "__builtins__"=some (some (.ref bm)))(e5:U3 K bm q=true)(e6:mainGlobals≠q) :
  ∀bD,PySem.W.codeIn K bD "law"=true->G8 K mg bD:=λbD hc=>by
 cases bD with
 |ref c'=>
  cases hl:K.lookup c' with
  |none=>unfold PySem.W.codeIn at hc;simp only[hl]at hc;cases hc
  |some o=>
   have hm:=lookup_mem hl;have e0:PySem.W.codeIn [(c',o)] (.ref c') "law"=PySem.W.codeIn K (.ref c') "law" :=by
    have h1:List.lookup c' [(c',o)]=some o:=by simp
    unfold PySem.W.codeIn;simp only[hl,h1]
   have ec:c'=c:=by have:=hZ.mp e1 _ hm;dsimp only at this;rw[e0,hc]at this;simpa using this
   subst ec;refine⟨c',q,rfl,λb hb=>(rX hb e2).1,by rw[e3];exact dA,λb hb=>?_,e6⟩
   unfold U3 at e5;split at e5
   . rename_i cc d sl hb2;simp only[eC,hU]at e5;obtain⟨⟨⟨⟨f1,f2⟩,f3⟩,f4⟩,f5⟩:=e5;exact⟨bm,_,B9 X G e4,f3,f4,f5,hb _ _ hb2,uv f1,by rw[f2],rfl⟩
   . cases e5
 |_=>cases hc
theorem wA{q:Addr}{K:Params->Frag}{w:World}{h:Heap}(e:(K w.params).lookup q=none)(Y:PySem.W.InK (qQ q K) w h):(K w.params).In h:=λa o ho=>by
 refine Y a o ?_;show List.lookup a ((q,_)::K w.params)=_;rw[o0];have:(a==q)=false:=by
  by_cases z:a=q
  . rw[z,e]at ho;cases ho
  . simpa using z
 rw[this];exact ho
theorem Dg{c q:Addr}{K:Params->Frag}{w:World}{h:Heap}(e:(K w.params).lookup q=none)(e2:codeOk (K w.params) c q=true)(Y:PySem.W.InK (qQ q K) w h):∀p∈[q],(∃c,h.TableAt c p #[])/\(K w.params).lookup p=none:=λp hp=>by
 cases fA.mp hp;refine⟨⟨c,(rX (wA e Y) e2).2,Y _ _ ?_⟩,e⟩;show List.lookup q ((q,_)::K w.params)=_;simp
theorem Iz{l:PySem.W.OpenLaw}{n k:Nat}{q:Program}{loose:List Str}{XP:(Str->Option Value)->Heap->Prop}{YP:World->Heap->Prop}{d:DefRec}{K:Params->Frag}{CX:Al}{sp:Frag->Sp}{x:Str}{T:List Addr}
  (hn:l.most=some n) (hn2:n<=sizeLine) (gY:d.params.defaults=[]) (hr:cD k callerA)
  (hY:∀(w:World) (h:Heap),YP w h->(K w.params).In h) (hT:∀(w:World) (h:Heap),YP w h->∀q∈T,(∃c,h.TableAt c q #[])/\(K w.params).lookup q=none)
  (F:∀(w:World) (mg:Str->Option Value) (fa:Addr) (h:Heap),(K w.params).In h->h.Ns mainGlobals mg->mg d.name=some (.ref fa)->
   ∃fd:FuncData,(∀(s:Shared) (u:Value),BindsTo s fd ⟨[u],[]⟩ [(x,u)])/\
    ∀base:Heap,(K w.params).In base->base.Ns mainGlobals mg->iZ l.prog w (K w.params) mg base CX k fa fd [x] (sp (K w.params)))
  (Vc:∀(w:World) (H:Hp) (a:Addr) (ns:List Int),ns.length<=n->zC T H->bZ (K w.params) H a (ns.map V.int)->sp (K w.params) [.ref a] H (λv _=>v=.bl true) λ_ _ _=>False)
  (hCX:∀(H:Hp) (s:Shared) (e:Value) (s':Shared),CX [] H s (λ_ _ _=>False) e s'->False) :
  PySem.W.WalkO q loose XP YP l.row.toRowW d [] (λf vs=>PySem.call f vs):=by
 refine Att.uN hn gY λw s₀ s₁ mg mb fa o pm cd doc a vs ns G Y ho hd bE hmg hobj hints aL hg=>?_
 have KX:=hY w _ Y;obtain⟨fd,hb,hF⟩:=F w mg fa _ KX G.T.g hmg;exact Cb KX (hT w _ Y) G.T.g G.T.b G.T.builtins G.T.nolimit hg hobj hints (i5 aL hn2) hr hF hb (λH hO hS=>Vc w H a ns aL hO hS) λH e s'=>hCX H s₁ e s'
noncomputable def kitF(K:Frag)(C:Addr):Bool:=["int", "bool", "str", "tuple", "list", "dict"].all λn=>decide (PySem.W.kitOne K (.ref C) (.type n)=some false)
theorem U5{K:Frag}{C:Addr}(h1:PySem.W.findIn K (.ref C) "__getattribute__"=some (some (.builtin "BaseException.__getattribute__")))(h8:PySem.W.findIn K (.ref C) "__getattr__"=some none)(h9:PySem.W.mroIn K C (.type "BaseException")=some true)(h2:PySem.W.hasDictIn K C=true)(h3:PySem.W.findIn K (.ref C) "__class__"=some (some (.builtin "object.__class__")))(h4:PySem.W.specialIn K (.builtin "object.__class__") "__get__"=some (some (.builtin "getset_descriptor.__get__")))(h5:PySem.W.takesIn K (.builtin "object.__class__")=some true)(h6:PySem.W.mroIn K C (.type "object")=some true)(h7:kitF K C=true):Jl K C:=
 ⟨h1,h8,h9,h2,h3,h4,h5,h6,λn hn=>lS (hZ.mp h7 n hn)⟩
noncomputable def jN(K:Frag)(cv:Value)(l:List (Addr×Bool)):Bool:=decide (PySem.W.kitOne K (.type "NoneType") cv=some false)&&l.all λp=>decide (PySem.W.kitOne K (.ref p.1) cv=some p.2)
theorem dN{P:Pg}{K:Frag}{mg:Str->Option Value}{h:Heap}{x:Str}{l:List (Addr×Bool)}{D:Addr}(X:K.In h)(G:h.Ns mainGlobals mg)(e1:(x==("__debug__":Str))=false)(e2:PySem.W.nsIn K mainGlobals x=some (some (.ref D)))(e3:jN K (.ref D) l=true) :
  (x==("__debug__":Str))=false/\∃cv,((mg x=some cv/\∃D,cv=.ref D)\/(x∈P.bn/\x≠ "__name__" /\bootBuiltins x=some cv/\∃n,cv=.type n))/\PySem.W.kitOne K (.type "NoneType") cv=some false/\∀C b,l.lookup C=some b->PySem.W.kitOne K (.ref C) cv=some b:=by
 unfold jN at e3;rw[eC]at e3;exact⟨e1,.ref D,.inl ⟨B9 X G e2,D,rfl⟩,lS e3.1,λC b hl=>lS (hZ.mp e3.2 _ (lookup_mem hl))⟩
theorem IK{P:Pg}{K:Frag}{mg:Str->Option Value}{x:Str}{l:List (Addr×Bool)}{n:String}(e1:(x==("__debug__":Str))=false)(e2:x∈P.bn)(e4:x≠ "__name__")(e5:bootBuiltins x=some (.type n))(e3:jN K (.type n) l=true) :
  (x==("__debug__":Str))=false/\∃cv,((mg x=some cv/\∃D,cv=.ref D)\/(x∈P.bn/\x≠ "__name__" /\bootBuiltins x=some cv/\∃n,cv=.type n))/\PySem.W.kitOne K (.type "NoneType") cv=some false/\∀C b,l.lookup C=some b->PySem.W.kitOne K (.ref C) cv=some b:=by
 unfold jN at e3;rw[eC]at e3;exact⟨e1,.type n,.inr ⟨e2,e4,e5,n,rfl⟩,lS e3.1,λC b hl=>lS (hZ.mp e3.2 _ (lookup_mem hl))⟩
theorem Y5{P:Pg}{K:Frag}{mg:Str->Option Value}(h1:∀bD,PySem.W.codeIn K bD "law"=true->G8 K mg bD)(h2:All (λp:Str×Addr=>mg p.1=some (.ref p.2)/\fM K p.2/\Jl K p.2) (P.cls.zip P.g6))(hl:P.g6.length<=P.cls.length)
  (h3:(P.kt==("__debug__":Str))=false/\∃D,mg P.kt=some (.ref D)/\fM K D/\All (λC=>vn K C D=true) P.g6)
  (h4:All (λp:Str×List (Addr×Bool)=>(p.1==("__debug__":Str))=false/\∃cv,((mg p.1=some cv/\∃D,cv=.ref D)\/(p.1∈P.bn/\p.1≠ "__name__" /\bootBuiltins p.1=some cv/\∃n,cv=.type n))/\PySem.W.kitOne K (.type "NoneType") cv=some false/\∀C b,p.2.lookup C=some b->PySem.W.kitOne K (.ref C) cv=some b) P.ups):TV P K mg:=
 ⟨λ_=>h1,λi C e=>by
  have hi:i<P.g6.length:=(b0.mp e).1;have hi2:i<P.cls.length:=by lia
  refine⟨P.cls[i],oC hi2,?_⟩;have:=h2.mem (P.cls[i],C) (kS (i:=i) (by rw[List.getElem?_zip_eq_some];exact⟨oC hi2,e⟩))
  exact this,λ_=>let ⟨a,D,b,c,d⟩:=h3;⟨a,D,b,c,λC hC=>d.mem C hC⟩,λx l h=>h4.mem (x,l) h⟩
end Ev
namespace L8
open L2 Ev
def f0:Fi:=cU (st 13)
def f1:Fi:=cU (st 14)
def f2:Fi:=cU (st 17)
def f3:Fi:=cU (st 18)
def f4:Fi:=cU (st 19)
def f5:Fi:=cU (st 20)
def f6:Fi:=cU (st 21)
def f7:Fi:=cU (st 22)
def f8:Fi:=cU (st 24)
def f9:Fi:=cU (st 25)
def f10:Fi:=cU (st 26)
def f11:Fi:=cU (st 28)
def f12:Fi:=cU (st 29)
def f13:Fi:=cU (st 31)
def f14:Fi:=cU (st 32)
def f15:Fi:=cU (st 33)
def f16:Fi:=cU (st 34)
def f17:Fi:=cU (st 35)
def f18:Fi:=cU (st 36)
def f19:Fi:=cU (st 37)
def f20:Fi:=cU (st 38)
def f21:Fi:=cU (st 39)
def f22:Fi:=cU (st 40)
def f23:Fi:=cU (st 41)
def f24:Fi:=cU (st 42)
def f25:Fi:=cU (st 43)
def f26:Fi:=cU (st 44)
def f27:Fi:=cU (st 45)
def VH:Fi:=cU (st 46)
noncomputable def ups:List (Str×List (Addr×Bool)):=[("NoWeb",[(37,true)]),("NoNumber",[(37,false)]),("NoTurn",[(37,false)]),("NoKind",[(37,false)]),("NoPlace",[(37,false)]),("NoTie",[(37,false)]),("NoText",[(37,false)]),("NoLine",[(37,false)]),("NoDeed",[(37,false)]),("TooGreat",[(37,false)]),("ValueError",[(37,true)])]
def P:Pg:=⟨[f0,f1,f2,f3,f4,f5,f6,f7,f8,f9,f10,f11,f12,f13,f14,f15,f16,f17,f18,f19,f20,f21,f22,f23,f24,f25,f26,f27,VH],[("MOST_PLACES",.int 6)],["ValueError", "all", "bool", "enumerate", "int", "isinstance", "len", "list", "max", "min", "range", "sorted", "tuple", "zip"],["NoWeb"],true,[37], "KindError",ups⟩
theorem U6:HJ P P.fn fns=true:=by decide +kernel
theorem fns_eq:List.zipWith (zW P) P.fn fns=P.fn.map (λfi=>bA fi.st):=by kernel_rfl
theorem nLaw:VH.N.length=7:=rfl
theorem hevF:∀ns:List Int,ns.length<=63->∃g',(run fns fuel).b [] kk VF.body (dz VH.N.length [.dat (.fix (ns.map .int))])=some (.rt (.dat (.bl true)),g'):=by rw[nLaw];exact hev
theorem Ad(P:Params):cE (K P)=[(nat_lit 322,ji)]:=by kernel_rfl
theorem IV(P:Params):(K P).lookup (nat_lit 322)=none:=by kernel_rfl
theorem Ae(P:Params):codeOk (K P) (nat_lit 324) (nat_lit 322)=true:=by kernel_rfl
theorem NC(P:Params):Iw (K P) (nat_lit 324)=true:=by kernel_rfl
theorem Y6(P:Params):U3 (K P) (nat_lit 4) (nat_lit 322)=true:=by kernel_rfl
theorem IW(P:Params):Jl (K P) (nat_lit 37):=U5 (by kernel_rfl) (by kernel_rfl) (by kernel_rfl) (by kernel_rfl) (by kernel_rfl) (by kernel_rfl) (by kernel_rfl) (by kernel_rfl) (by kernel_rfl)
theorem wB(P:Params):fM (K P) (nat_lit 37):=by kernel_rfl
theorem Ja(P:Params):vn (K P) (nat_lit 37) (nat_lit 24)=true:=by kernel_rfl
theorem uw(P:Params):fM (K P) (nat_lit 24):=by kernel_rfl
theorem Jb(P:Params):jN (K P) (.ref (nat_lit 37)) [(37,true)]=true:=by kernel_rfl
theorem wC(P:Params):jN (K P) (.ref (nat_lit 49)) [(37,false)]=true:=by kernel_rfl
theorem Dh(P:Params):jN (K P) (.ref (nat_lit 61)) [(37,false)]=true:=by kernel_rfl
theorem Di(P:Params):jN (K P) (.ref (nat_lit 73)) [(37,false)]=true:=by kernel_rfl
theorem yK(P:Params):jN (K P) (.ref (nat_lit 85)) [(37,false)]=true:=by kernel_rfl
theorem Jc(P:Params):jN (K P) (.ref (nat_lit 97)) [(37,false)]=true:=by kernel_rfl
theorem Dj(P:Params):jN (K P) (.ref (nat_lit 109)) [(37,false)]=true:=by kernel_rfl
theorem Dk(P:Params):jN (K P) (.ref (nat_lit 121)) [(37,false)]=true:=by kernel_rfl
theorem Dl(P:Params):jN (K P) (.ref (nat_lit 133)) [(37,false)]=true:=by kernel_rfl
theorem wD(P:Params):jN (K P) (.ref (nat_lit 152)) [(37,false)]=true:=by kernel_rfl
theorem qO(P:Params):jN (K P) (.type "ValueError") [(37,true)]=true:=by kernel_rfl
end L8
open PySem PySem.W PyProof.Rows
set_option maxHeartbeats 0 in
theorem PySem.Challenge.cw_websbykind_k80_opposites_holds : PySem.Challenge.rw_websbykind_k80_opposites.Holds := by
 w_on
 refine PySem.W.holds_law (by decide +kernel) λsaid=>?_
 refine PySem.W.holds_open (q:=L8.qv) (loose:=[]) (Xt:=λs=>xlAt L8.qv [] s&&recOk (OpenRow.toRowW PySem.Challenge.rw_websbykind_k80_opposites.row).records s) (XP:=XL L8.qv []) (Yf:=λs=>L8.as2.map s.heap.get?) (Ya:=λw=>(Ev.qQ 322 L8.K w.params).map λp:Nat×Obj=>some p.2) (YP:=InK (Ev.qQ 322 L8.K)) (N:=8000) L8.hl (InK.of L8.VJ) InK.keeps (λs e=>xl_of s (Bool.and_eq_true_iff.mp e).1) XL.keeps (by rfl) (by rfl) (by rfl) (λs e=>recFacts_of (Bool.and_eq_true_iff.mp e).2) (by rfl) (by first |assumption |decide +kernel) (by decide +kernel) ⟨rfl,rfl,rfl,rfl,rfl,by decide +kernel⟩ ?hw ?hc
 (case hw=>w_witness2)
 k_fill
 refine Ev.Iz (l:=PySem.Challenge.rw_websbykind_k80_opposites) (n:=63) (k:=L8.kk+1) (x:= "_law_script") (CX:=L2.uB) (K:=L8.K) (T:=[322]) (sp:=λK=>Ev.Km K L8.VH.N 1 λbor g r g'=>(Ev.run L8.fns L8.fuel).b bor L8.kk L8.VF.body g=some (.rt r,g')) rfl ⋯ rfl ⟨rfl,by decide,by decide⟩ (λw h Y=>Ev.wA (L8.IV _) Y) (λw h Y=>Ev.Dg (L8.IV _) (L8.Ae _) Y) ?F ?S ?C
 case F=>
  intro w mg fa h KX G hmg
  have mm:Ev.cA (L2.KOf KX) mg L8.f0/\Ev.cA (L2.KOf KX) mg L8.f1/\Ev.cA (L2.KOf KX) mg L8.f2/\Ev.cA (L2.KOf KX) mg L8.f3/\Ev.cA (L2.KOf KX) mg L8.f4/\Ev.cA (L2.KOf KX) mg L8.f5/\Ev.cA (L2.KOf KX) mg L8.f6/\Ev.cA (L2.KOf KX) mg L8.f7/\Ev.cA (L2.KOf KX) mg L8.f8/\Ev.cA (L2.KOf KX) mg L8.f9/\Ev.cA (L2.KOf KX) mg L8.f10/\Ev.cA (L2.KOf KX) mg L8.f11/\Ev.cA (L2.KOf KX) mg L8.f12/\Ev.cA (L2.KOf KX) mg L8.f13/\Ev.cA (L2.KOf KX) mg L8.f14/\Ev.cA (L2.KOf KX) mg L8.f15/\Ev.cA (L2.KOf KX) mg L8.f16/\Ev.cA (L2.KOf KX) mg L8.f17/\Ev.cA (L2.KOf KX) mg L8.f18/\Ev.cA (L2.KOf KX) mg L8.f19/\Ev.cA (L2.KOf KX) mg L8.f20/\Ev.cA (L2.KOf KX) mg L8.f21/\Ev.cA (L2.KOf KX) mg L8.f22/\Ev.cA (L2.KOf KX) mg L8.f23/\Ev.cA (L2.KOf KX) mg L8.f24/\Ev.cA (L2.KOf KX) mg L8.f25/\Ev.cA (L2.KOf KX) mg L8.f26/\Ev.cA (L2.KOf KX) mg L8.f27/\Ev.cA (L2.KOf KX) mg L8.VH:=by
   refine⟨?_,?_,?_,?_,?_,?_,?_,?_,?_,?_,?_,?_,?_,?_,?_,?_,?_,?_,?_,?_,?_,?_,?_,?_,?_,?_,?_,?_,?_⟩ <;> (
    dsimp only[L2.KOf]
    exact Ev.YC (by assumption) (by assumption) (by k_is) (by k_is) (by k_is) (by k_is) ⟨rfl,rfl,rfl,by decide +kernel,by decide +kernel,by decide +kernel,by decide +kernel⟩ (λ_ _ _ _ _ _ us hl=>by first | (obtain⟨_,e⟩:=Ev.YF hl;subst e;rfl) | (obtain⟨_,_,e⟩:=Ev.YG hl;subst e;rfl) | (obtain⟨_,_,_,e⟩:=Ev.len3 hl;subst e;rfl) | (obtain⟨_,_,_,_,e⟩:=Ev.len4 hl;subst e;rfl)) ⋯)
  obtain⟨m0,m1,m2,m3,m4,m5,m6,m7,m8,m9,m10,m11,m12,m13,m14,m15,m16,m17,m18,m19,m20,m21,m22,m23,m24,m25,m26,m27,m28⟩:=mm
  have qP:Ev.TQ (L2.KOf KX) mg ("MOST_PLACES",.int 6):=by
   dsimp only[L2.KOf]
   refine' Ev.TX KX G ?a ⋯
   (case a=>k_is)
  have ux:mg "ValueError"=none:=mg_none_of KX G (by k_is)
  have Y7:mg "all"=none:=mg_none_of KX G (by k_is)
  have U7:mg "bool"=none:=mg_none_of KX G (by k_is)
  have wF:mg "enumerate"=none:=mg_none_of KX G (by k_is)
  have Y8:mg "int"=none:=mg_none_of KX G (by k_is)
  have uy:mg "isinstance"=none:=mg_none_of KX G (by k_is)
  have Y9:mg "len"=none:=mg_none_of KX G (by k_is)
  have U8:mg "list"=none:=mg_none_of KX G (by k_is)
  have Za:mg "max"=none:=mg_none_of KX G (by k_is)
  have Zb:mg "min"=none:=mg_none_of KX G (by k_is)
  have NK:mg "range"=none:=mg_none_of KX G (by k_is)
  have Jd:mg "sorted"=none:=mg_none_of KX G (by k_is)
  have NP:mg "tuple"=none:=mg_none_of KX G (by k_is)
  have Zc:mg "zip"=none:=mg_none_of KX G (by k_is)
  have uz:PySem.W.nsIn (L2.KOf KX) mainGlobals "NoWeb"=some (some (.ref 37)):=by dsimp only[L2.KOf];k_is
  have wG:PySem.W.nsIn (L2.KOf KX) mainGlobals "KindError"=some (some (.ref 24)):=by dsimp only[L2.KOf];k_is
  have yL:PySem.W.nsIn (L2.KOf KX) mainGlobals "NoNumber"=some (some (.ref 49)):=by dsimp only[L2.KOf];k_is
  have Je:PySem.W.nsIn (L2.KOf KX) mainGlobals "NoTurn"=some (some (.ref 61)):=by dsimp only[L2.KOf];k_is
  have Jf:PySem.W.nsIn (L2.KOf KX) mainGlobals "NoKind"=some (some (.ref 73)):=by dsimp only[L2.KOf];k_is
  have Dm:PySem.W.nsIn (L2.KOf KX) mainGlobals "NoPlace"=some (some (.ref 85)):=by dsimp only[L2.KOf];k_is
  have NQ:PySem.W.nsIn (L2.KOf KX) mainGlobals "NoTie"=some (some (.ref 97)):=by dsimp only[L2.KOf];k_is
  have Jg:PySem.W.nsIn (L2.KOf KX) mainGlobals "NoText"=some (some (.ref 109)):=by dsimp only[L2.KOf];k_is
  have Jh:PySem.W.nsIn (L2.KOf KX) mainGlobals "NoLine"=some (some (.ref 121)):=by dsimp only[L2.KOf];k_is
  have Ji:PySem.W.nsIn (L2.KOf KX) mainGlobals "NoDeed"=some (some (.ref 133)):=by dsimp only[L2.KOf];k_is
  have yM:PySem.W.nsIn (L2.KOf KX) mainGlobals "TooGreat"=some (some (.ref 152)):=by dsimp only[L2.KOf];k_is
  have n_b:PySem.W.nsIn (L2.KOf KX) mainGlobals "__builtins__"=some (some (.ref 4)):=by dsimp only[L2.KOf];k_is
  have lm:Ev.TV L8.P (L2.KOf KX) mg:=Ev.Y5 (Ev.U4 KX G (L8.NC _) (L8.Ae _) (L8.Ad _) n_b (L8.Y6 _) ⋯) (.cons ⟨mg_of KX G uz,L8.wB _,L8.IW _⟩ .nil) ⋯ ⟨by decide,24,mg_of KX G wG,L8.uw _,(.cons (L8.Ja _) .nil)⟩ (.cons (Ev.dN KX G ⋯ uz (L8.Jb _)) (.cons (Ev.dN KX G ⋯ yL (L8.wC _)) (.cons (Ev.dN KX G ⋯ Je (L8.Dh _)) (.cons (Ev.dN KX G ⋯ Jf (L8.Di _)) (.cons (Ev.dN KX G ⋯ Dm (L8.yK _)) (.cons (Ev.dN KX G ⋯ NQ (L8.Jc _)) (.cons (Ev.dN KX G ⋯ Jg (L8.Dj _)) (.cons (Ev.dN KX G ⋯ Jh (L8.Dk _)) (.cons (Ev.dN KX G ⋯ Ji (L8.Dl _)) (.cons (Ev.dN KX G ⋯ yM (L8.wD _)) (.cons (Ev.IK ⋯ ⋯ ⋯ rfl (L8.qO _)) .nil)))))))))))
  have md:Ev.tD L8.P (L2.KOf KX) mg:=Ev.YB (.cons m0 (.cons m1 (.cons m2 (.cons m3 (.cons m4 (.cons m5 (.cons m6 (.cons m7 (.cons m8 (.cons m9 (.cons m10 (.cons m11 (.cons m12 (.cons m13 (.cons m14 (.cons m15 (.cons m16 (.cons m17 (.cons m18 (.cons m19 (.cons m20 (.cons m21 (.cons m22 (.cons m23 (.cons m24 (.cons m25 (.cons m26 (.cons m27 (.cons m28 .nil))))))))))))))))))))))))))))) (.cons qP .nil) (.cons ux (.cons Y7 (.cons U7 (.cons wF (.cons Y8 (.cons uy (.cons Y9 (.cons U8 (.cons Za (.cons Zb (.cons NK (.cons Jd (.cons NP (.cons Zc .nil)))))))))))))) (.cons (Ev.YD KX G uz (L8.wB _) ⋯) .nil) lm
  exact Ev.HF (Ev.T5 L8.U6 L8.fns_eq) md (i:=28) (fi:=L8.VH) rfl rfl rfl m28 hmg
 case S=>exact λw H a ns hl hO hS=>Ev.T3 L8.hevF (L8.K w.params) H a ns hl (by rw[L8.Ad];exact hO) hS
 case C=>exact λ_ _ _ _ z=>z
