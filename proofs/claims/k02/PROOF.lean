import PyProof.Rows.All
import Wide.All
import OpenK.AllK
import Wide.FinOn
import Lean
import PyProof.EqAt
import PyProof.EqKinds
import PyProof.TupleCall
import PySem.Challenge.RW_websbykind_k02_turns_known
set_option Elab.async false
set_option linter.all false
set_option compiler.extract_closed false
set_option bootstrap.genMatcherCode false
set_option genSizeOf false
set_option maxHeartbeats 4000000
set_option maxRecDepth 100000
set_option autoImplicit true
open PySem PySem.Spec PyProof.Rows
open PySem.W (Frag)
local macro_rules | `($x⁻¹)=>`(($x).heap.objs.size)
abbrev aad:=@PySem.wpAny_bind
abbrev aae:=@PySem.Heap.get?_push_of_some
abbrev aaf:=@List.mem_cons_of_mem
abbrev aag:=@List.size_toArray
abbrev aah:=@List.mem_cons_self
abbrev aai:=@List.getElem?_eq_some_iff
abbrev aaj:=@List.mem_cons
abbrev aak:=@PySem.wpAny_pure
abbrev aal:=@Nat.le_refl
abbrev aam:=@List.getElem?_append_right
abbrev aan:=@Nat.lt_of_lt_of_le
abbrev aao:=@Bool.and_eq_true
abbrev aap:=@Option.bind_eq_some_iff
abbrev aaq:=@PySem.Heap.get?_push_size
abbrev aar:=@List.getElem?_set_ne
abbrev aas:=@PySem.Heap.lt_size
abbrev aat:=@List.getElem?_append_left
abbrev aau:=@if_neg
abbrev aav:=@if_pos
abbrev aaw:=@List.length_append
abbrev aax:=@List.getElem?_set_self
abbrev aay:=@List.nodup_cons
abbrev aaz:=@decide_eq_true_eq
abbrev aaA:=@List.length_map
abbrev aaB:=@List.length_replicate
abbrev aaC:=@List.mem_singleton
abbrev aaD:=@List.mem_map
abbrev aaE:=@List.mem_filter
abbrev aaF:=@Bool.false_ne_true
abbrev aaG:=@Nat.ne_of_lt
abbrev aaH:=@of_decide_eq_true
abbrev aaI:=@Nat.le_trans
abbrev aaJ:=@PySem.Heap.get?_update_other
abbrev aaK:=@List.all_eq_true
abbrev aaL:=@Nat.add_sub_cancel_left
abbrev aaM:=@List.mem_append_right
abbrev aaN:=@PySem.wpAny_mono
abbrev aaO:=@List.not_mem_nil
abbrev aaP:=@List.mem_of_getElem?
abbrev aaQ:=@List.length_cons
abbrev aaR:=@PySem.wpAny_field
abbrev aaS:=@PySem.wpAny_newObj_type
abbrev aaT:=@PySem.wpAny_truthy_bool
abbrev aaU:=@PyProof.Rows.callWith_type1
abbrev aaV:=@List.append_nil
abbrev aaW:=@PyProof.Rows.slot_tuple_getitem
abbrev aaX:=@Ne.symm
abbrev aaY:=@PySem.sizeLine_eq
abbrev aaZ:=@List.getElem?_eq_getElem
abbrev aa0:=@List.filterMap_cons
abbrev aa1:=@Option.some.inj
abbrev aa2:=@List.length_set
abbrev aa3:=@List.replicate_succ
abbrev aa4:=@List.lookup_cons
abbrev aa5:=@PySem.wpAny_callSpecial?_slot
abbrev aa6:=@List.getD_eq_getElem?_getD
abbrev aa7:=@Nat.lt_irrefl
abbrev aa8:=@PySem.wpAny_holding
abbrev aa9:=@Array.length_toList
abbrev abb:=@List.mem_map_of_mem
abbrev abd:=@PySem.wpAny_Call_Name_kw
abbrev abe:=@PySem.wpAny_call_entry
abbrev abf:=@Nat.zero_le
abbrev abg:=@List.nodup_nil
abbrev abh:=@decide_eq_false
abbrev abi:=@PySem.Heap.get?_update_self
abbrev abj:=@PySem.W.kia_one
abbrev abk:=@List.set_append_right
abbrev abl:=@List.getElem?_take_of_lt
abbrev abm:=@PySem.Obj.data_mapFields
abbrev abn:=@List.length_take
abbrev abo:=@List.mem_range
abbrev abp:=@List.Perm.refl
abbrev abq:=@List.getElem?_map
abbrev abr:=@Array.getD_eq_getD_getElem?
abbrev abt:=@List.map_congr_left
abbrev abu:=@Bool.or_eq_true
abbrev abv:=@Array.getElem?_eq_some_iff
abbrev abw:=@PySem.F.slot_tuple_iterator_next
abbrev abx:=@Nat.lt_succ_self
abbrev aby:=@Nat.le_add_right
abbrev abz:=@List.length_singleton
abbrev abA:=@Nat.lt_or_ge
abbrev abB:=@List.mem_replicate
abbrev abC:=@List.pairwise_cons
abbrev abD:=@PySem.Obj.isFreed_of_fields
abbrev abE:=@PySem.wpAny_setField_rec
abbrev abF:=@List.getElem?_eq_none_iff
abbrev abG:=@PySem.wpAny_seqItems
abbrev abH:=@List.mem_append
abbrev abI:=@PySem.wpAny_passesOwn
abbrev abJ:=@List.flatten_cons
abbrev abK:=@Nat.ne_of_gt
abbrev abL:=@PySem.mem_of_lookup
abbrev abM:=@if_true
abbrev abN:=@PySem.F.plainAttrs_list
abbrev abO:=@or_false
abbrev abP:=@decide_eq_true
abbrev abQ:=@PySem.Heap.size_push
abbrev abR:=@Nat.lt_of_succ_lt_succ
abbrev abS:=@PySem.W.callWith_K
abbrev abT:=@List.nil_append
abbrev abU:=@List.getElem?_eq_none
abbrev abV:=@Nat.not_lt_zero
abbrev abW:=@Int.toNat_natCast
abbrev abX:=@Array.perm_iff_toList_perm
abbrev abY:=@List.nodup_iff_pairwise_ne
abbrev abZ:=@List.mem_append_left
abbrev ab0:=@List.range_eq_range'
abbrev ab1:=@PySem.wpAny_setField
abbrev ab2:=@PySem.wpAny_execs_cons
abbrev ab3:=@List.range'_succ
abbrev ab4:=@List.length_reverse
abbrev ab5:=@PySem.F.args_tuple_add_2
abbrev ab6:=@List.getElem?_replicate
abbrev ab7:=@List.zip_cons_cons
abbrev ab8:=@List.length_nil
abbrev ab9:=@PySem.F.entry_tuple_add
abbrev acd:=@Array.Perm.refl
abbrev ace:=@Int.emod_lt_of_pos
abbrev acf:=@PySem.W.cellsFrom_some
abbrev acg:=@PySem.F.slot_tuple_add
abbrev ach:=@Nat.le_of_succ_le_succ
abbrev aci:=@List.reverse_cons
abbrev acj:=@Nat.le_succ
abbrev ack:=@List.append_assoc
abbrev acm:=@PySem.call_meets
abbrev acn:=@PySem.W.kitx_list
abbrev aco:=@Bool.not_eq_true'
abbrev acp:=@PySem.F.slot_list_index
abbrev acq:=@PySem.F.plainAttrs_list
abbrev acr:=@PySem.codeAny_mono
abbrev acs:=@Nat.succ.inj
abbrev acu:=@List.take_append_drop
abbrev acv:=@Nat.sub_self
abbrev acw:=@List.contains_iff_mem
abbrev acy:=@Nat.sub_eq_zero_of_le
abbrev acz:=@beq_self_eq_true
abbrev acH:=@PySem.W.mg_of
abbrev acK:=@List.of_mem_zip
abbrev acN:=@Option.map_some
abbrev acP:=@Int.emod_nonneg
abbrev acQ:=@Nat.le_of_lt
theorem nt{p:Prop}(h:false=true):p:=Bool.noConfusion h
namespace L2
def iR(s:Stmt):Arguments:=match s with
 |.FunctionDef _ a _ _ _ _ _ _ _ _=>a
 |_=>{ posonlyargs:=[],args:=[],vararg:=none,kwonlyargs:=[],kw_defaults:=[],kwarg:=none,defaults:=[]}
def cD(s:Stmt):List Stmt:=match s with
 |.FunctionDef _ _ b _ _ _ _ _ _ _=>b
 |_=>[]
def aD(s:Stmt):Scope:=match s with
 |.FunctionDef _ _ _ _ _ _ sc _ _ _=>sc
 |_=>{ kind:=.function,names:=[],isGenerator:=false,isCoroutine:=false}
end L2
namespace Ev
open L2
noncomputable def qP(q:Addr)(K:Params->Frag)(P:Params):Frag:=(q,{ cls:=.none,data:=.fields #[]})::K P
end Ev
namespace K2
open L2 Ev
def st(j:Nat):Stmt:=PySem.Challenge.pw_websbykind_k02_turns_known.main.body.getD j (.Pass ⟨0,0,0,0⟩)
noncomputable def de(P:Params)(s:Str)(t:Tok)(v:Value):DictEntry:=⟨PyData.keyHash P s,.str s t,v⟩
noncomputable def co(vs:Array Value):Obj:=⟨.type "code",none,.fields vs,#[]⟩
noncomputable def fo(j:Nat)(n:Str)(kV doc pm:Value)(an:Option Addr)(bB ct:Value):Obj:=⟨.type "function",none,.func (PySem.W.fnOf n n (iR (st j)) (cD (st j)) (aD (st j)) .none kV doc pm an bB ct),#[]⟩
noncomputable def ce(n:Str)(b a s r t u:Nat):Obj:=⟨.type "type",none,.cls ⟨n,[.ref b],[.ref a,.ref b,.type "ValueError",.type "Exception",.type "BaseException",.type "object"],s,n,true,[],[],false,none,false⟩,#[some (.ref r),none,some (.str n t),some (.str n u),some (.builtin "ValueError.__new__"),some (.bool true)]⟩
noncomputable def cd(n:Str)(t l p r:Nat)(x y z:Value)(u:Nat):Obj:=co #[.str n t,.str n (t+1),.str "/claim/cut.py" (t+2),.int l 0,.int p 0,.int 0 0,.int 0 0,.int 3 0,.ref r,.bool true,.int 181 0,.ref (r+1),.none,x,y,z,.int u 0,.int l 0,.str "/claim/cut.py" (u+1)]
noncomputable def fq(j:Nat)(n:Str)(m:Value)(c:Addr):Obj:=fo j n .none .none m none (.ref c) .none
noncomputable def m0:Value:=.str "websbykind.whole" 378
noncomputable def m1:Value:=.str "websbykind.webs" 405
noncomputable def m2:Value:=.str "law_websbykind_k02_turns_known" 482
noncomputable def K(P:Params):Frag:=
 (nat_lit 3,⟨.type "dict",none,.dict #[de P "__name__" 165 (.str "law_websbykind_k02_turns_known" 482),de P "__doc__" 166 (.none),de P "__package__" 167 (.none),de P "__loader__" 168 (.builtin "__main__.__loader__#opaque"),de P "__spec__" 169 (.none),de P "__annotations__" 170 (.ref 6),de P "__builtins__" 171 (.ref 4),de P "__file__" 173 (.str "/claim/cut.py" 172),de P "__cached__" 174 (.none),de P "KindError" 206 (.ref 24),de P "NoWeb" 222 (.ref 37),de P "NoNumber" 238 (.ref 49),de P "NoTurn" 254 (.ref 61),de P "NoKind" 270 (.ref 73),de P "NoPlace" 286 (.ref 85),de P "NoTie" 302 (.ref 97),de P "NoText" 318 (.ref 109),de P "NoLine" 334 (.ref 121),de P "NoDeed" 350 (.ref 133),de P "TooGreat" 377 (.ref 152),de P "is_whole" 386 (.ref 161),de P "is_within" 395 (.ref 168),de P "must_be_within" 404 (.ref 175),de P "MOST_PLACES" 408 (.int 6 407),de P "is_web" 414 (.ref 180),de P "is_tie" 420 (.ref 185),de P "is_rising" 426 (.ref 190),de P "must_be_web" 433 (.ref 197),de P "is_turn" 439 (.ref 202),de P "must_be_turn" 447 (.ref 209),de P "turned" 455 (.ref 216),de P "led_on" 461 (.ref 221),de P "tie_of" 469 (.ref 228),de P "behind" 475 (.ref 233),de P "back" 481 (.ref 238),de P "_law_cell_at" 491 (.ref 245),de P "_law_state" 500 (.ref 252),de P "_law_take" 510 (.ref 259),de P "_law_pairs" 516 (.ref 264),de P "_law_mixed_row" 526 (.ref 271),de P "_law_web" 532 (.ref 276),de P "_law_turn" 543 (.ref 283),de P "_law_turned" 549 (.ref 288),de P "_law_whole" 556 (.ref 295),de P "_law_is_turn" 562 (.ref 300),de P "_law_bent_turn" 575 (.ref 307),de P "_law_bad_web" 583 (.ref 314),de P "_law_bad_number" 591 (.ref 321),de P "_law_same" 597 (.ref 326),de P "_law_refused" 603 (.ref 331),de P "_law_refusals_right" 609 (.ref 336),de P "law" 615 (.ref 341)] 52,#[]⟩) ::
 (nat_lit 4,⟨.type "module",(some 0),.plain,#[]⟩) ::
 (nat_lit 24,⟨.type "type",none,.cls ⟨"KindError",[.type "ValueError"],[.ref 24,.type "ValueError",.type "Exception",.type "BaseException",.type "object"],23, "KindError",true,[],[.ref 37,.ref 49,.ref 61,.ref 73,.ref 85,.ref 97,.ref 109,.ref 121,.ref 133,.ref 152],false,none,false⟩,#[some (.ref 15),none,some (.str "KindError" 189),some (.str "KindError" 197),some (.builtin "ValueError.__new__"),some (.bool true)]⟩) ::
 (nat_lit 23,⟨.type "dict",none,.dict #[de P "__module__" 196 (.str "websbykind.errors" 187),de P "__firstlineno__" 200 (.int 2 199),de P "__static_attributes__" 201 (.ref 22),de P "__weakref__" 203 (.ref 25),de P "__doc__" 204 (.none)] 3,#[]⟩) ::
 (nat_lit 37,ce "NoWeb" 24 37 36 28 207 215) ::
 (nat_lit 36,⟨.type "dict",none,.dict #[de P "__module__" 214 (.str "websbykind.errors" 187),de P "__firstlineno__" 218 (.int 4 217),de P "__static_attributes__" 219 (.ref 35),de P "__doc__" 220 (.none)] 2,#[]⟩) ::
 (nat_lit 49,ce "NoNumber" 24 49 48 40 223 231) ::
 (nat_lit 48,⟨.type "dict",none,.dict #[de P "__module__" 230 (.str "websbykind.errors" 187),de P "__firstlineno__" 234 (.int 6 233),de P "__static_attributes__" 235 (.ref 47),de P "__doc__" 236 (.none)] 2,#[]⟩) ::
 (nat_lit 61,ce "NoTurn" 24 61 60 52 239 247) ::
 (nat_lit 60,⟨.type "dict",none,.dict #[de P "__module__" 246 (.str "websbykind.errors" 187),de P "__firstlineno__" 250 (.int 8 249),de P "__static_attributes__" 251 (.ref 59),de P "__doc__" 252 (.none)] 2,#[]⟩) ::
 (nat_lit 73,ce "NoKind" 24 73 72 64 255 263) ::
 (nat_lit 85,ce "NoPlace" 24 85 84 76 271 279) ::
 (nat_lit 97,ce "NoTie" 24 97 96 88 287 295) ::
 (nat_lit 109,ce "NoText" 24 109 108 100 303 311) ::
 (nat_lit 121,ce "NoLine" 24 121 120 112 319 327) ::
 (nat_lit 133,ce "NoDeed" 24 133 132 124 335 343) ::
 (nat_lit 152,ce "TooGreat" 24 152 151 136 351 359) ::
 (nat_lit 160,cd "is_whole" 380 28 1 155 (.ref 157) (.ref 158) (.ref 159) 384) ::
 (nat_lit 161,fq 13 "is_whole" m0 160) ::
 (nat_lit 167,cd "is_within" 387 30 3 162 (.ref 164) (.ref 165) (.ref 166) 393) ::
 (nat_lit 168,fq 14 "is_within" m0 167) ::
 (nat_lit 174,cd "must_be_within" 396 32 3 169 (.ref 171) (.ref 172) (.ref 173) 402) ::
 (nat_lit 175,fq 15 "must_be_within" m0 174) ::
 (nat_lit 179,cd "is_web" 409 37 1 176 .none .none (.ref 178) 412) ::
 (nat_lit 180,fq 18 "is_web" m1 179) ::
 (nat_lit 184,cd "is_tie" 415 44 2 181 .none .none (.ref 183) 418) ::
 (nat_lit 185,fq 19 "is_tie" m1 184) ::
 (nat_lit 189,cd "is_rising" 421 48 1 186 .none .none (.ref 188) 424) ::
 (nat_lit 190,fq 20 "is_rising" m1 189) ::
 (nat_lit 196,cd "must_be_web" 427 50 1 191 (.ref 193) (.ref 194) (.ref 195) 431) ::
 (nat_lit 197,fq 21 "must_be_web" m1 196) ::
 (nat_lit 201,cd "is_turn" 434 53 2 198 .none .none (.ref 200) 437) ::
 (nat_lit 202,fq 22 "is_turn" m1 201) ::
 (nat_lit 208,cd "must_be_turn" 440 58 2 203 (.ref 205) (.ref 206) (.ref 207) 445) ::
 (nat_lit 209,fq 23 "must_be_turn" m1 208) ::
 (nat_lit 215,cd "turned" 448 61 2 210 (.ref 212) (.ref 213) (.ref 214) 453) ::
 (nat_lit 216,fq 24 "turned" m1 215) ::
 (nat_lit 220,cd "led_on" 456 65 2 217 .none .none (.ref 219) 459) ::
 (nat_lit 221,fq 25 "led_on" m1 220) ::
 (nat_lit 227,cd "tie_of" 462 68 2 222 (.ref 224) (.ref 225) (.ref 226) 467) ::
 (nat_lit 228,fq 26 "tie_of" m1 227) ::
 (nat_lit 232,cd "behind" 470 70 3 229 .none .none (.ref 231) 473) ::
 (nat_lit 233,fq 27 "behind" m1 232) ::
 (nat_lit 237,cd "back" 476 74 2 234 .none .none (.ref 236) 479) ::
 (nat_lit 238,fq 28 "back" m1 237) ::
 (nat_lit 244,cd "_law_cell_at" 484 78 2 239 (.ref 241) (.ref 242) (.ref 243) 489) ::
 (nat_lit 245,fq 30 "_law_cell_at" m2 244) ::
 (nat_lit 251,cd "_law_state" 492 82 2 246 (.ref 248) (.ref 249) (.ref 250) 498) ::
 (nat_lit 252,fq 31 "_law_state" m2 251) ::
 (nat_lit 258,cd "_law_take" 501 87 2 253 (.ref 255) (.ref 256) (.ref 257) 508) ::
 (nat_lit 259,fq 32 "_law_take" m2 258) ::
 (nat_lit 263,cd "_law_pairs" 511 96 1 260 .none .none (.ref 262) 514) ::
 (nat_lit 264,fq 33 "_law_pairs" m2 263) ::
 (nat_lit 270,cd "_law_mixed_row" 517 101 2 265 (.ref 267) (.ref 268) (.ref 269) 524) ::
 (nat_lit 271,fq 34 "_law_mixed_row" m2 270) ::
 (nat_lit 275,cd "_law_web" 527 107 2 272 .none .none (.ref 274) 530) ::
 (nat_lit 276,fq 35 "_law_web" m2 275) ::
 (nat_lit 282,cd "_law_turn" 533 121 2 277 (.ref 279) (.ref 280) (.ref 281) 541) ::
 (nat_lit 283,fq 36 "_law_turn" m2 282) ::
 (nat_lit 287,cd "_law_turned" 544 130 2 284 .none .none (.ref 286) 547) ::
 (nat_lit 288,fq 37 "_law_turned" m2 287) ::
 (nat_lit 294,cd "_law_whole" 550 132 1 289 (.ref 291) (.ref 292) (.ref 293) 554) ::
 (nat_lit 295,fq 38 "_law_whole" m2 294) ::
 (nat_lit 299,cd "_law_is_turn" 557 134 2 296 .none .none (.ref 298) 560) ::
 (nat_lit 300,fq 39 "_law_is_turn" m2 299) ::
 (nat_lit 306,cd "_law_bent_turn" 563 138 2 301 (.ref 303) (.ref 304) (.ref 305) 573) ::
 (nat_lit 307,fq 40 "_law_bent_turn" m2 306) ::
 (nat_lit 313,cd "_law_bad_web" 576 145 1 308 (.ref 310) (.ref 311) (.ref 312) 581) ::
 (nat_lit 314,fq 41 "_law_bad_web" m2 313) ::
 (nat_lit 320,cd "_law_bad_number" 584 150 2 315 (.ref 317) (.ref 318) (.ref 319) 589) ::
 (nat_lit 321,fq 42 "_law_bad_number" m2 320) ::
 (nat_lit 325,cd "_law_same" 592 152 2 322 .none .none (.ref 324) 595) ::
 (nat_lit 326,fq 43 "_law_same" m2 325) ::
 (nat_lit 330,cd "_law_refused" 598 160 1 327 .none .none (.ref 329) 601) ::
 (nat_lit 331,fq 44 "_law_refused" m2 330) ::
 (nat_lit 335,cd "_law_refusals_right" 604 174 3 332 .none .none (.ref 334) 607) ::
 (nat_lit 336,fq 45 "_law_refusals_right" m2 335) ::
 (nat_lit 340,cd "law" 610 191 1 337 .none .none (.ref 339) 613) ::
 (nat_lit 341,fq 46 "law" m2 340)::[]
noncomputable def as:List Addr:=nat_lit 3::nat_lit 4::nat_lit 24::nat_lit 23::nat_lit 37::nat_lit 36::nat_lit 49::nat_lit 48::nat_lit 61::nat_lit 60::nat_lit 73::nat_lit 85::nat_lit 97::nat_lit 109::nat_lit 121::nat_lit 133::nat_lit 152::nat_lit 160::nat_lit 161::nat_lit 167::nat_lit 168::nat_lit 174::nat_lit 175::nat_lit 179::nat_lit 180::nat_lit 184::nat_lit 185::nat_lit 189::nat_lit 190::nat_lit 196::nat_lit 197::nat_lit 201::nat_lit 202::nat_lit 208::nat_lit 209::nat_lit 215::nat_lit 216::nat_lit 220::nat_lit 221::nat_lit 227::nat_lit 228::nat_lit 232::nat_lit 233::nat_lit 237::nat_lit 238::nat_lit 244::nat_lit 245::nat_lit 251::nat_lit 252::nat_lit 258::nat_lit 259::nat_lit 263::nat_lit 264::nat_lit 270::nat_lit 271::nat_lit 275::nat_lit 276::nat_lit 282::nat_lit 283::nat_lit 287::nat_lit 288::nat_lit 294::nat_lit 295::nat_lit 299::nat_lit 300::nat_lit 306::nat_lit 307::nat_lit 313::nat_lit 314::nat_lit 320::nat_lit 321::nat_lit 325::nat_lit 326::nat_lit 330::nat_lit 331::nat_lit 335::nat_lit 336::nat_lit 340::nat_lit 341::[]
noncomputable def as2:List Addr:=nat_lit 333::as
noncomputable def qv:Program:={ PySem.Challenge.pw_websbykind_k02_turns_known with main:={ PySem.Challenge.pw_websbykind_k02_turns_known.main with body:=[st 1,st 2,st 3,st 4,st 5,st 6,st 7,st 8,st 9,st 10,st 11,st 13,st 14,st 15,st 17,st 18,st 19,st 20,st 21,st 22,st 23,st 24,st 25,st 26,st 27,st 28,st 30,st 31,st 32,st 33,st 34,st 35,st 36,st 37,st 38,st 39,st 40,st 41,st 42,st 43,st 44,st 45,st 46]}}
theorem Vm(P:Params):as2=(qP 333 K P).map (·.1):=by kernel_rfl
theorem hl:PySem.W.LeftO PySem.Challenge.rw_websbykind_k02_turns_known.row.prog qv [] (λs=>PySem.W.xlAt qv [] s&&PySem.W.recOk (PySem.W.OpenRow.toRowW PySem.Challenge.rw_websbykind_k02_turns_known.row).records s) (λs=>as2.map s.heap.get?) (λw=>(qP 333 K w.params).map λp:Nat×Obj=>some p.2) 8000:=λw=>by kernel_rfl
end K2
namespace L2
abbrev Key:=Sum Int Str
noncomputable def NC:Key->Value->Bool
 |.inl k,v=>Value.isInt k v
 |.inr x,v=>Value.isStrOf x v
noncomputable def Zh(w:World):Key->Int
 |.inl k=>hashInt k
 |.inr x=>hashStr w x
theorem bz:∀{k:Key}{v:Value},NC k v=true->(∃i t,k=Sum.inl i/\v=Value.int i t)\/(∃x t,k=Sum.inr x/\v=Value.str x t)
 |.inl i,v,h=>by
  obtain⟨t,e⟩:=Value.isInt_shape (k:=i) (v:=v) h
  exact .inl ⟨i,t,rfl,e⟩
 |.inr x,v,h=>by
  obtain⟨t,e⟩:=Value.isStrOf_shape (x:=x) (v:=v) h
  exact .inr ⟨x,t,rfl,e⟩
theorem Oz(a b:Int):decide ((Sum.inl a:Key)=Sum.inl b)=(a==b):=by
 by_cases e:a=b
 .
  subst e;simp
 .
  have h : ¬ (Sum.inl a:Key)=Sum.inl b:=λq=>e (Sum.inl.inj q)
  rw[abh h]
  exact (beq_eq_false_iff_ne.mpr e).symm
theorem OD(a b:Str):decide ((Sum.inr a:Key)=Sum.inr b)=decide (a=b):=by
 by_cases e:a=b
 .
  subst e;simp
 .
  have h : ¬ (Sum.inr a:Key)=Sum.inr b:=λq=>e (Sum.inr.inj q)
  rw[abh h,abh e]
theorem OJ(a:Int)(b:Str):decide ((Sum.inl a:Key)=Sum.inr b)=false:=abh (λq=>nomatch q)
theorem O1(a:Str)(b:Int):decide ((Sum.inr a:Key)=Sum.inl b)=false:=abh (λq=>nomatch q)
noncomputable def se(prog:Program)(w:World):PySem.KeyKind prog w Key where
 is:=NC
 hash:=Zh w
 inj:=λv a b ha hb=>by
  rcases bz ha with ⟨i,t,rfl,rfl⟩ |⟨x,t,rfl,rfl⟩
  .
   rcases bz hb with ⟨j,u,rfl,e⟩ |⟨y,u,rfl,e⟩
   .
    injection e with e1 _;rw[e1]
   .
    exact nomatch e
  .
   rcases bz hb with ⟨j,u,rfl,e⟩ |⟨y,u,rfl,e⟩
   .
    exact nomatch e
   .
    injection e with e1 _;rw[e1]
 byValue:=λk v h=>by
  rcases bz h with ⟨i,t,rfl,rfl⟩ |⟨x,t,rfl,rfl⟩ <;> rfl
 pyHash:=λhv h=>by
  rcases bz hv with ⟨i,t,rfl,rfl⟩ |⟨x,t,rfl,rfl⟩
  .
   exact wpAny_pyHash_int h
  .
   exact wpAny_pyHash_str h
 eqBool:=λhu hv h=>by
  rcases bz hu with ⟨i,t,rfl,rfl⟩ |⟨x,t,rfl,rfl⟩
  .
   rcases bz hv with ⟨j,u,rfl,rfl⟩ |⟨y,u,rfl,rfl⟩
   .
    rw[Oz]at h;exact wpAny_eqBool_int h
   .
    rw[OJ]at h;exact SeqAt.EqAt.int_str i t y u _ _ _ _ h
  .
   rcases bz hv with ⟨j,u,rfl,rfl⟩ |⟨y,u,rfl,rfl⟩
   .
    rw[O1]at h;exact SeqAt.EqAt.str_int x t j u _ _ _ _ h
   .
    rw[OD]at h;exact wpAny_eqBool_str h
 «strs»:=λk x t v h=>by
  rcases bz h with ⟨i,u,rfl,e⟩ |⟨y,u,rfl,e⟩
  .
   exact nomatch e
  .
   injection e with e1 _
   subst e1
   cases v <;> rfl
inductive V where
 |non |bl (b:Bool) |int (i:Int) |str (x:Str) |O2 (b:Array UInt8) |flt (b:UInt64) |ref (a:Addr) |ty (n:String)
 deriving DecidableEq
noncomputable def RelV:V->Value->Prop
 |.non,u=>u=Value.none
 |.bl b,u=>u=Value.bool b
 |.int i,u=>∃t,u=Value.int i t
 |.str x,u=>∃t,u=Value.str x t
 |.O2 b,u=>∃t,u=Value.bytes b t
 |.flt b,u=>∃t,u=Value.float b t
 |.ref a,u=>u=Value.ref a
 |.ty n,u=>u=Value.type n
noncomputable abbrev Vals:List V->List Value->Prop:=Paired RelV
theorem Vals.length{xs:List V}{us:List Value}(r:Vals xs us):xs.length=us.length:=Paired.length r
theorem Vals.get:∀{xs:List V}{us:List Value}{i:Nat}{x:V},Vals xs us->xs[i]?=some x->∃u,us[i]?=some u/\RelV x u
 |_,_,_,_,.nil,e=>by simp at e
 |_,_,0,_,.cons r _,e=>by simp at e;subst e;exact⟨_,rfl,r⟩
 |_,_,i+1,x,.cons _ t,e=>by
  obtain⟨u,h1,h2⟩:=Vals.get (i:=i) (x:=x) t (by simpa using e)
  exact⟨u,by simpa using h1,h2⟩
theorem Vals.set{x:V}{u:Value}(r:RelV x u):∀{xs:List V}{us:List Value} (i:Nat),Vals xs us->Vals (xs.set i x) (us.set i u)
 |_,_,_,.nil=>.nil
 |_,_,0,.cons _ t=>.cons r t
 |_,_,i+1,.cons q t=>.cons q (Vals.set r i t)
theorem Vals.append:∀{xs ys:List V}{us ws:List Value},Vals xs us->Vals ys ws->Vals (xs++ys) (us++ws)
 |_,_,_,_,.nil,s=>s
 |_,_,_,_,.cons r t,s=>.cons r (Vals.append t s)
theorem Vals.take:∀{xs:List V}{us:List Value} (n:Nat),Vals xs us->Vals (xs.take n) (us.take n)
 |_,_,0,_=>.nil
 |_,_,_+1,.nil=>.nil
 |_,_,n+1,.cons r t=>.cons r (Vals.take n t)
theorem Vals.drop:∀{xs:List V}{us:List Value} (n:Nat),Vals xs us->Vals (xs.drop n) (us.drop n)
 |_,_,0,r=>r
 |_,_,_+1,.nil=>.nil
 |_,_,n+1,.cons _ t=>Vals.drop n t
noncomputable def Vn:Option V->Option Value->Prop
 |some v,some u=>RelV v u
 |none,none=>True
 |_,_=>False
noncomputable def KV{κ:Type}:List (κ×V)->List (κ×Value)->Prop:=Paired λ(p:κ×V) (q:κ×Value)=>p.1=q.1/\RelV p.2 q.2
noncomputable def kV:Key->V
 |.inl i=>.int i
 |.inr x=>.str x
inductive HO where

 |lst (xs:List V)

 |tup (xs:List V)

 |dK (jz:List (Key×V)) |dT (jz:List (List Key×V))

 |set (S:Int->Bool) (n:Nat)

 |ins (C dx:Addr) (fs:List (Str×V))

 |own (x:Addr)

 |xd (fs:List (Str×V))

 |met (f x:Addr)

 |Ym (lo hi:Int)

 |gG (o:Obj) (u:HO)

 |kW (ps:Array Value)

 |ext (φ:Heap->Prop)
abbrev Hp:=Addr->Option HO
noncomputable def upd(H:Hp)(a:Addr)(o:HO):Hp:=λb=>if b=a then some o else H b
theorem aE:upd H a o a=some o:=by unfold upd;rw[aav rfl]
theorem az(h:b≠a):upd H a o b=H b:=by unfold upd;rw[aau h]
theorem aH{H:Hp}{a b:Addr}{o:HO}(h:H a=some o)(h':H b=none):a≠b:=by
 intro e;subst e;rw[h]at h';cases h'
def fK(h:Heap)(a:Addr)(its:Array Value):Prop:=∃o,h.get? a=some o/\(o.cls=.type "tuple" /\∃n,o.data=.seq its n)/\o.dict=none
theorem fK.tup{h:Heap}{a:Addr}{its:Array Value}(x:fK h a its):IsTup h a its:=let ⟨o,e,c,_⟩:=x;⟨o,e,c⟩
theorem fK.new(h:Heap)(its:Array Value):fK (h.push { cls:=.type "tuple",data:=.seq its}) h.objs.size its:=⟨_,aaq _ rfl,⟨rfl,_,rfl⟩,rfl⟩
section
variable(P:Program)(w:World)
noncomputable def dc(H:Hp)(h:Heap)(a:Addr):HO->Prop
 |.lst xs=>xs.length<=sizeLine/\∃(its:List Value) (n:Nat),Vals xs its/\h.get? a=some { cls:=.type "list",data:=.seq its.toArray n}
 |.tup xs=>xs.length<=sizeLine/\∃its:List Value,Vals xs its/\fK h a its.toArray
 |.dK jz=>jz.length<=sizeLine/\(a==sysModules)=false/\∃vs,KV jz vs/\h.DictOf (se P w) a vs
 |.dT jz=>jz.length<=sizeLine/\(a==sysModules)=false/\∃xs:List (List Key×Addr×Value),
   Paired (λ(p:List Key×V) (q:List Key×Addr×Value)=>p.1=q.1/\H q.2.1=some (.tup (p.1.map kV))/\RelV p.2 q.2.2) jz xs/\
   ∃o es ep,h.get? a=some o/\o.ExactDict/\o.data=.dict es ep/\es.toList=xs.map (entryOfKey (tupleKind (se P w)))/\(xs.map (·.1)).Nodup
 |.set S n=>h.SetOf (intKind P w) a S n
 |.ins C dx fs=>H dx=some (.own a)/\fs.length<=1000/\dx≠a/\h.get? a=some (PySem.W.instObj C dx)/\
   ∃mA,h.Ns1 dx mA/\(∀f,Vn (fs.lookup f) (mA f))/\PySem.Within mA (fs.map (·.1))
 |.own _=>∃o,h.get? a=some o
 |.xd fs=>∃mA,h.Ns1 a mA/\∀f,Vn (fs.lookup f) (mA f)
 |.Ym lo hi=>∃t u v,h.get? a=some { cls:=.type "range",data:=.fields #[.int lo t,.int hi u,.int 1 v]}
 |.gG o u=>h.get? a=some o/\dc H h a u
 |.kW ps=>h.get? a=some { cls:=.none,data:=.fields ps}
 |.met f x=>h.get? a=some (PySem.W.methodObj (.ref f) (.ref x))
 |.ext φ=>φ h/\(∃o,h.get? a=some o)/\∀h1 h2:Heap,φ h1->(∀o,h1.get? a=some o->h2.get? a=some o)->φ h2
noncomputable def kX(H:Hp)(h:Heap):Prop:=∀a o,H a=some o->dc P w H h a o
end
section
variable{P:Program}{w:World}{H H':Hp}{h h':Heap}{a:Addr}{o:HO}
theorem dc.lt(x:dc P w H h a o):a<h.objs.size:=by
 cases o with
 |lst xs=>obtain⟨_,_,_,_,e⟩:=x;exact aas e
 |tup xs=>obtain⟨_,_,_,_,e,_⟩:=x;exact aas e
 |dK jz=>obtain⟨_,_,_,_,o,_,_,e,_⟩:=x;exact aas e
 |dT jz=>obtain⟨_,_,_,_,o,_,_,e,_⟩:=x;exact aas e
 |set S n=>obtain⟨o,_,_,_,e,_⟩:=x;exact aas e
 |ins C dx fs=>obtain⟨_,_,_,e,_⟩:=x;exact aas e
 |own y=>obtain⟨_,e⟩:=x;exact aas e
 |xd fs=>obtain⟨_,⟨_,_,_,e,_⟩,_⟩:=x;exact aas e
 |Ym lo hi=>obtain⟨_,_,_,e⟩:=x;exact aas e
 |gG ob u=>obtain⟨e,_⟩:=x;exact aas e
 |kW ps=>exact aas (show h.get? a=some _ from x)
 |met f y=>exact aas (show h.get? a=some _ from x)
 |ext φ=>obtain⟨_,⟨_,e⟩,_⟩:=x;exact aas e
theorem Paired.Vo{α β:Type}{F G:α->β->Prop}:∀{l₁:List α}{l₂:List β},Paired F l₁ l₂->(∀a b,F a b->G a b)->Paired G l₁ l₂
 |_,_,.nil,_=>.nil
 |_,_,.cons r t,f=>.cons (f _ _ r) (Paired.Vo t f)
theorem dc.stay(x:dc P w H h a o)(k:∀b u,(b=a\/H b=some (.own a))->h.get? b=some u->h'.get? b=some u)
  (ho:∀b,H b=some (.own a)->H' b=some (.own a)) (ht:∀b xs,H b=some (.tup xs)->H' b=some (.tup xs)):dc P w H' h' a o:=by
 induction o with
 |lst xs=>obtain⟨z,its,n,r,e⟩:=x;exact⟨z,its,n,r,k _ _ (.inl rfl) e⟩
 |tup xs=>obtain⟨z,its,r,ob,e,c⟩:=x;exact⟨z,its,r,ob,k _ _ (.inl rfl) e,c⟩
 |dK jz=>obtain⟨z,y,vs,r,ob,es,ep,e,c⟩:=x;exact⟨z,y,vs,r,ob,es,ep,k _ _ (.inl rfl) e,c⟩
 |dT jz=>
  obtain⟨z,y,xs,r,ob,es,ep,e,c⟩:=x
  exact⟨z,y,xs,Paired.Vo r λp q z=>⟨z.1,ht _ _ z.2.1,z.2.2⟩,ob,es,ep,k _ _ (.inl rfl) e,c⟩
 |set S n=>obtain⟨ob,es,ep,t,e,c⟩:=x;exact⟨ob,es,ep,t,k _ _ (.inl rfl) e,c⟩
 |ins C dx fs=>
  obtain⟨d,z,ne,e,mA,⟨od,es,ep,e2,c⟩,r⟩:=x
  exact⟨ho _ d,z,ne,k _ _ (.inl rfl) e,mA,⟨od,es,ep,k _ _ (.inr d) e2,c⟩,r⟩
 |own y=>obtain⟨ob,e⟩:=x;exact⟨ob,k _ _ (.inl rfl) e⟩
 |xd fs=>obtain⟨mA,⟨od,es,ep,e,c⟩,r⟩:=x;exact⟨mA,⟨od,es,ep,k _ _ (.inl rfl) e,c⟩,r⟩
 |Ym lo hi=>obtain⟨t,u,v,e⟩:=x;exact⟨t,u,v,k _ _ (.inl rfl) e⟩
 |gG ob u ih=>obtain⟨e,q⟩:=x;exact⟨k _ _ (.inl rfl) e,ih q⟩
 |kW ps=>
  have e:h.get? a=some { cls:=.none,data:=.fields ps}:=x
  show h'.get? a=some { cls:=.none,data:=.fields ps}
  exact k a _ (.inl rfl) e
 |met f y=>
  have e:h.get? a=some (PySem.W.methodObj (.ref f) (.ref y)):=x
  show h'.get? a=some (PySem.W.methodObj (.ref f) (.ref y))
  exact k a _ (.inl rfl) e
 |ext φ=>obtain⟨p,⟨o,e⟩,st⟩:=x;exact⟨st _ _ p λo q=>k _ _ (.inl rfl) q,⟨o,k _ _ (.inl rfl) e⟩,st⟩
theorem kX.lt(x:kX P w H h)(e:H a=some o):a<h.objs.size:=(x a o e).lt
theorem kX.fresh(x:kX P w H h)(e:h.objs.size<=a):H a=none:=by
 cases q:H a with
 |none=>rfl
 |some u=>exact absurd (aan (x.lt q) e) (aa7 _)
theorem kX.kept(x:kX P w H h)(k:∀b u,h.get? b=some u->h'.get? b=some u):kX P w H h':=λa o e=>
 (x a o e).stay (λb u _ q=>k b u q) (λ_ q=>q) λ_ _ q=>q
theorem kX.laid(x:kX P w H h)(k:∀b u,h.get? b=some u->h'.get? b=some u)(hp:h.objs.size<=a)(new:dc P w (upd H a o) h' a o):kX P w (upd H a o) h':=λb u e=>by
 have hn:=x.fresh hp
 by_cases hb:b=a
 .
  subst hb;rw[aE]at e;cases e;exact new
 .
  rw[az hb]at e
  exact (x b u e).stay (λc v _ q=>k c v q) (λc q=>by rw[az (aH q hn)];exact q) λc xs q=>by rw[az (aH q hn)];exact q
end
def Rd(H:Hp)(a:Addr)(u:HO):Prop:=H a=some u\/∃o,H a=some (.gG o u)
theorem Rd.ok{P:Program}{w:World}{H:Hp}{h:Heap}{a:Addr}{u:HO}(r:Rd H a u)(x:kX P w H h):dc P w H h a u:=by
 rcases r with r |⟨o,r⟩
 .
  exact x a u r
 .
  obtain⟨_,q⟩:=x a _ r
  exact q
noncomputable def Yn:Option HO->Prop
 |some (.lst _)=>True
 |some (.dK _)=>True
 |some (.dT _)=>True
 |some (.set _ _)=>True
 |some (.ins _ _ _)=>True
 |some (.ext _)=>True
 |_=>False
section
variable{P:Program}{w:World}{H:Hp}{h h':Heap}{x e:Addr}{o':HO}
theorem kX.write(ok:kX P w H h)(mu:Yn (H x))(he:e=x\/H e=some (.own x))(k:∀b u,b≠e->h.get? b=some u->h'.get? b=some u)(UG:∃u,h'.get? e=some u)
  (new:dc P w (upd H x o') h' x o'):kX P w (upd H x o') h':=λb u q=>by
 have Vp:∀c y,H c=some (.own y)->c≠x:=λc y r z=>by subst z;rw[r]at mu;exact mu
 have Zi:∀c xs,H c=some (.tup xs)->c≠x:=λc xs r z=>by subst z;rw[r]at mu;exact mu
 by_cases hb:b=x
 .
  subst hb;rw[aE]at q;cases q;exact new
 .
  rw[az hb]at q
  by_cases O4:b=e
  .
   have q':H b=some (.own x):=by
    rcases he with z |z
    .
     exact absurd (O4.trans z) hb
    .
     rw[O4];exact z
   rw[q]at q';cases q'
   obtain⟨v,hv⟩:=UG
   exact⟨v,by rw[O4];exact hv⟩
  .
   refine (ok b u q).stay (λc v hc r=>k c v ?_ r) (λc r=>by rw[az (Vp c b r)];exact r) λc xs r=>by rw[az (Zi c xs r)];exact r
   rcases hc with rfl |hc
   .
    exact O4
   .
    rintro rfl
    rcases he with z |z
    .
     exact Vp c b hc z
    .
     rw[hc]at z;cases z;exact hb rfl
end
structure Un(fs ex:List Addr)(H H':Hp)(h h':Heap):Prop where
 keep:∀b o,h.get? b=some o->H b=none->b∉fs->b∉ex->h'.get? b=some o
 slot:∀b o,h.get? b=some o->H b=none->b∈fs->b∉ex->∃sl,h'.get? b=some { o with slots:=sl}
 free:∀b o,h.get? b=some o->H b=none->b∉ex->H' b=none
 there:∀b o,h.get? b=some o->b∉ex->∃o',h'.get? b=some o'
 tups:∀b xs,H b=some (.tup xs)->H' b=some (.tup xs)
 jV:∀b o u,H b=some (.gG o u)->H' b=some (.gG o u)
 jW:∀b ps,H b=some (.kW ps)->∃more,H' b=some (.kW (ps++more))
section
variable{fs fs' ex ex':List Addr}{H H1 H2:Hp}{h h1 h2 h':Heap}{a x e:Addr}{o:HO}
theorem Un.any(u:Un fs ex H H1 h h1){b:Addr}{ob:Obj}(q:h.get? b=some ob)(n:H b=none)(hx:b∉ex):∃sl,h1.get? b=some { ob with slots:=sl}:=by
 by_cases hb:b∈fs
 .
  exact u.slot b ob q n hb hx
 .
  exact⟨ob.slots,u.keep b ob q n hb hx⟩
theorem Un.kept(k:∀b u,h.get? b=some u->h'.get? b=some u):Un fs ex H H h h':=
 ⟨λb ob q _ _ _=>k b ob q,λb ob q _ _ _=>⟨ob.slots,k b ob q⟩,λ_ _ _ n _=>n,λb ob q _=>⟨ob,k b ob q⟩,λ_ _ q=>q,λ_ _ _ q=>q,λ_ ps q=>⟨#[],by rw[q];simp⟩⟩
theorem Un.refl:Un fs ex H H h h:=Un.kept λ_ _ q=>q
theorem Un.laid(k:∀b u,h.get? b=some u->h'.get? b=some u)(hp:h.objs.size<=a)(hn:H a=none):Un fs ex H (upd H a o) h h' where
 keep:=λb u q _ _ _=>k b u q
 slot:=λb u q _ _ _=>⟨u.slots,k b u q⟩
 free:=λb u q n _=>by rw[az (aaG (aan (aas q) hp))];exact n
 there:=λb u q _=>⟨u,k b u q⟩
 tups:=λb xs q=>by rw[az (aH q hn)];exact q
 jV:=λb u xs q=>by rw[az (aH q hn)];exact q
 jW:=λb ps q=>⟨#[],by rw[az (aH q hn),q];simp⟩
theorem Un.write(mu:Yn (H x))(he:e=x\/H e=some (.own x))(k:∀b u,b≠e->h.get? b=some u->h'.get? b=some u)(UG:∃u,h'.get? e=some u):Un fs ex H (upd H x o) h h':=by
 have hx:∀b,H b=none->b≠x:=λb n z=>by subst z;rw[n]at mu;exact mu
 have hb:∀b,H b=none->b≠e:=λb n z=>by
  subst z
  rcases he with r |r
  .
   exact hx b n r
  .
   rw[n]at r;cases r
 have hm:∀b u,H b=some u->¬ Yn (some u)->b≠x:=λb u q nm z=>by subst z;rw[q]at mu;exact nm mu
 refine⟨λb u q n _ _=>k b u (hb b n) q,λb u q n _ _=>⟨u.slots,k b u (hb b n) q⟩,λb u q n _=>by rw[az (hx b n)];exact n,λb u q _=>?_,
  λb xs q=>by rw[az (hm b _ q λz=>z)];exact q,λb u xs q=>by rw[az (hm b _ q λz=>z)];exact q,λb ps q=>⟨#[],by rw[az (hm b _ q λz=>z),q];simp⟩⟩
 by_cases O4:b=e
 .
  subst O4;exact UG
 .
  exact⟨u,k b u O4 q⟩
end
noncomputable def Yo(h:Heap)(H:Hp):List Addr:=(List.range h.objs.size).filter λa=>(H a).isSome
noncomputable def sf(h:Heap)(H:Hp):Heap:=PySem.W.hideAll h (Yo h H)
theorem Ad(h:Heap)(H:Hp):(sf h H).objs.size=h.objs.size:=PySem.W.hideAll_size _ _
theorem Dz(e:h.get? b=some o)(n:H b=none):(sf h H).get? b=some o:=
 PySem.W.hideAll_get _ e λhm=>by
  have q:(H b).isSome=true:=(aaE.mp hm).2
  rw[n]at q;simp at q
theorem Jm(e:(sf h H).get? b=some o):h.get? b=some o/\H b=none:=by
 have e':h.get? b=some o:=PySem.W.of_hideAll (Yo h H) e
 refine⟨e',?_⟩
 cases q:H b with
 |none=>rfl
 |some x=>
  have hm:b∈Yo h H:=aaE.mpr ⟨abo.mpr (aas e'),by simp[q]⟩
  have z:(sf h H).get? b=none:=PySem.W.hideAll_none (Yo h H) hm
  rw[z]at e;cases e
noncomputable def Jo(g h:Heap)(L:Addr):List (Addr×Obj):=(List.range h.objs.size).filterMap λa=>if a=L\/(g.get? a).isSome=true then none else (h.get? a).map λo=>(a,o)
noncomputable def rest(g h:Heap)(L d:Addr):List (Addr×Obj):=(Jo g h L).filter λp=>decide (p.1≠d)
structure Mod(K:Frag)(mg:Str->Option Value)(base:Heap):Prop where
 Dl:K.In base
 glob:base.Ns mainGlobals mg
 blt:∃mb,base.Ns builtinsNs mb/\∀x:Str,x≠ "__name__" ->mb x=bootBuiltins x
 nolimit:base.NoLimit
structure Cx where
 prog:Program
 w:World
 K:Frag
 mg:Str->Option Value
 base:Heap
 A:Around
 N:List Str
 s₀:Shared
 H₀:Hp
 env:Env
 outer:List Env
 stack:List Env
 ex:List Addr
 fn:Str->Bool
 calm:Bool
 pn:List (Addr×Obj)
 xe:Value->Shared->Prop
noncomputable def frs(l:List Env):List Addr:=l.filterMap (·.frame)
noncomputable abbrev Cx.fs(X:Cx):List Addr:=frs X.outer
def nI(sc:Scope)(x:Str):Prop:=sc.names.lookup x=some .local\/sc.names.lookup x=some .cell\/sc.names.lookup x=some .free
def Loc(sc:Scope)(x:Str):Prop:=sc.names.lookup x=some .local\/sc.names.lookup x=some .cell
def Look(env:Env)(h:Heap)(m:Str->Option Value)(x:Str)(u:Value):Prop:=
 (env.kindOf x=some .local/\m x=some u)\/((env.kindOf x=some .cell\/env.kindOf x=some .free)/\∃c,env.cells.lookup x=some c/\h.IsCell c (some u))
structure Cx.Ok(X:Cx):Prop where
 mod:Mod X.K X.mg X.base
 kind:X.env.scope.kind=.function
 glob:X.env.globals=mainGlobals
 blt:X.env.builtins=builtinsNs
 above:X.s₀⁻¹<=X.env.locals
 inj:∀x y c,X.env.cells.lookup x=some c->X.env.cells.lookup y=some c->x=y
 has:∀x,(X.env.kindOf x=some .cell\/X.env.kindOf x=some .free)->∃c,X.env.cells.lookup x=some c
 O5:∀x c,X.fn x=true->X.env.cells.lookup x=some c->X.s₀⁻¹<=c
 hd:X.calm=true->X.A.handled=none
 frames:X.A.frames=some X.stack
 stk:X.stack=X.outer\/(X.stack=X.env::X.outer/\X.env.frame=some X.env.locals)
 UJ:∀b∈X.ex,b≠X.env.locals/\∀x c,X.env.cells.lookup x=some c->c≠b
 bs:∀b o,X.base.get? b=some o->X.s₀.heap.get? b=some o/\X.H₀ b=none
 DG:X.base.objs.size<=X.s₀⁻¹
 uE:∀b o,X.base.get? b=some o->b∉X.ex
 wM:∀b∈X.ex,b∉X.fs
 jX:X.s₀.heap.FunFrames X.base X.outer
 Jp:∀b∈X.fs,X.H₀ b=none
structure Inv(X:Cx)(ah:List (Addr×Obj))(σ:List (Option V))(H:Hp)(s:Shared):Prop where
 ok:X.Ok
 os:s.os=X.s₀.os
 bare:AllBare s.gens
 base:Un X.fs X.ex X.H₀ H X.s₀.heap s.heap
 loc:∃m,s.heap.Ns X.env.locals m/\∀(i:Nat) (x:Str) (v:V),X.N[i]?=some x->σ[i]?=some (some v)->nI X.env.scope x->∃u,RelV v u/\Look X.env s.heap m x u
 cell:∀x c,X.env.cells.lookup x=some c->∃v,s.heap.IsCell c v
 free:H X.env.locals=none
 dJ:∀x c,X.env.cells.lookup x=some c->H c=none
 pin:∀p∈X.pn++ah,s.heap.get? p.1=some p.2/\H p.1=none/\p.1≠X.env.locals/\p.1∉X.fs/\∀v,p.2.data≠.cell v
 hok:kX X.prog X.w H s.heap
 len:σ.length=X.N.length
section
variable{X:Cx}{ah:List (Addr×Obj)}{σ:List (Option V)}{H H':Hp}{s:Shared}{h':Heap}
theorem Cx.Ok.Zj(ok:X.Ok)(e:X.base.get? b=some o):b∉X.fs:=λhb=>by
 have:=(ok.jX.mem hb).1
 rw[e]at this;cases this
theorem Inv.bs(I:Inv X ah σ H s):∀b o,X.base.get? b=some o->s.heap.get? b=some o/\H b=none:=λb o e=>
 ⟨I.base.keep b o (I.ok.bs b o e).1 (I.ok.bs b o e).2 (I.ok.Zj e) (I.ok.uE b o e),I.base.free b o (I.ok.bs b o e).1 (I.ok.bs b o e).2 (I.ok.uE b o e)⟩
theorem Inv.bk(I:Inv X ah σ H s):∀b o,X.base.get? b=some o->s.heap.get? b=some o:=λb o e=>(I.bs b o e).1
theorem Inv.mod(I:Inv X ah σ H s):Mod X.K X.mg X.base:=I.ok.mod
theorem Inv.nh(I:Inv X ah σ H s):X.K.In s.heap:=I.ok.mod.Dl.keeps I.bk
theorem Inv.nolimit(I:Inv X ah σ H s):s.heap.NoLimit:=I.ok.mod.nolimit.keeps I.bk
theorem Inv.lt(I:Inv X ah σ H s):X.env.locals<s⁻¹:=let ⟨_,hn,_⟩:=I.loc;hn.lt
theorem Inv.sz(I:Inv X ah σ H s):X.s₀⁻¹<=s⁻¹:=aaI I.ok.above (acQ I.lt)
theorem Inv.Zm(I:Inv X ah σ H s)(h:s⁻¹<=a):a∉X.fs:=λhb=>by
 obtain⟨_,o,ho,_⟩:=I.ok.jX.mem hb
 exact absurd (aan (aas ho) (aaI I.sz h)) (aa7 _)
theorem Inv.O6(I:Inv X ah σ H s):∀x c,X.env.cells.lookup x=some c->c≠X.env.locals:=λx c e z=>by
 obtain⟨v,o,ho,hd⟩:=I.cell x c e
 obtain⟨m,⟨o',es,ep,ho',hd',_⟩,_⟩:=I.loc
 rw[z,ho']at ho;cases ho;rw[hd']at hd;cases hd
theorem Inv.jX(I:Inv X ah σ H s):s.heap.FunFrames X.base X.outer:=by
 have all:∀(l:List Env),(∀b∈frs l,b∈X.fs)->X.s₀.heap.FunFrames X.base l->s.heap.FunFrames X.base l:=by
  intro l
  induction l with
  |nil=>intro _ _;trivial
  |cons env r ih=>
   intro hs hl
   obtain⟨hk,⟨L,o,hf,hn,ho,hd⟩,hr⟩:=hl
   have hL:L∈X.fs:=hs L (by unfold frs;rw[aa0,hf];exact aah)
   obtain⟨sl,e⟩:=I.base.slot L o ho (I.ok.Jp L hL) hL λz=>I.ok.wM L z hL
   exact⟨hk,⟨L,_,hf,hn,e,hd⟩,ih (λb hb=>hs b (by unfold frs;rw[aa0,hf];exact aaf _ hb)) hr⟩
 exact all X.outer (λ_ hb=>hb) I.ok.jX
theorem Inv.stack(I:Inv X ah σ H s):s.heap.FunFrames X.base X.stack:=by
 rcases I.ok.stk with e |⟨e,hf⟩
 .
  rw[e];exact I.jX
 .
  rw[e]
  obtain⟨m,hn,_⟩:=I.loc
  refine .cons (by rw[I.ok.kind];decide) hf hn ?_ I.jX
  exact Heap.get?_none_of_le (aaI I.ok.DG I.ok.above)
theorem Inv.wN(I:Inv X ah σ H s):∀b∈frs X.stack,b∈X.env.locals::X.fs:=λb hb=>by
 rcases I.ok.stk with e |⟨e,hf⟩
 .
  rw[e]at hb;exact aaf _ hb
 .
  rw[e]at hb
  unfold frs at hb
  rw[aa0,hf]at hb
  exact hb
theorem Inv.sr(I:Inv X ah σ H s):∀b∈frs X.stack,H b=none:=λb hb=>by
 rcases aaj.mp (I.wN b hb)with e |hb
 .
  rw[e];exact I.free
 .
  obtain⟨_,o,ho,_⟩:=I.ok.jX.mem hb
  exact I.base.free b o ho (I.ok.Jp b hb) λz=>I.ok.wM b z hb
theorem Inv.step{g':Array GenState}{t':Nat}{d':Drawn}{ch:List Addr}(I:Inv X ah σ H s)
  (hch:∀b∈ch,(b∈X.ex\/X.s₀⁻¹<=b)/\b≠X.env.locals/\(∀x c,X.env.cells.lookup x=some c->c≠b)/\∀p∈X.pn++ah,p.1≠b)
  (keep:∀b o,b≠X.env.locals->b∉X.fs->b∉ch->s.heap.get? b=some o->H b=none->h'.get? b=some o)
  (slot:∀b o,b≠X.env.locals->b∈X.fs->b∉ch->s.heap.get? b=some o->H b=none->∃sl,h'.get? b=some { o with slots:=sl}) (free:∀b o,b∉ch->s.heap.get? b=some o->H b=none->H' b=none)
  (there:∀b o,b∉ch->s.heap.get? b=some o->∃o',h'.get? b=some o')
  (tups:∀b xs,H b=some (.tup xs)->H' b=some (.tup xs)) (jV:∀b o u,H b=some (.gG o u)->H' b=some (.gG o u)) (jW:∀b ps,H b=some (.kW ps)->∃more,H' b=some (.kW (ps++more)))
  (ns:∀m,s.heap.Ns X.env.locals m->h'.Ns X.env.locals m) (hok:kX X.prog X.w H' h') (hg:AllBare g') :
  Inv X ah σ H' { s with heap:=h',gens:=g',drawn:=d',toks:=t'}:=by
 have neL:∀b o,X.s₀.heap.get? b=some o->b≠X.env.locals:=λb o e=>aaG (aan (aas e) I.ok.above)
 have Yp:∀b o,X.s₀.heap.get? b=some o->b∉X.ex->b∉ch:=λb o e hx hb=>by
  rcases (hch b hb).1 with z |z
  .
   exact hx z
  .
   exact absurd (aan (aas e) z) (aa7 _)
 have cellK:∀x c,X.env.cells.lookup x=some c->∀v,s.heap.IsCell c v->h'.IsCell c v:=λx c e v ⟨o,ho,hd⟩=>by
  have Vq:c∉ch:=λz=>(hch c z).2.2.1 x c e rfl
  by_cases hc:c∈X.fs
  .
   obtain⟨sl,q⟩:=slot c o (I.O6 x c e) hc Vq ho (I.dJ x c e)
   exact⟨_,q,hd⟩
  .
   exact⟨o,keep c o (I.O6 x c e) hc Vq ho (I.dJ x c e),hd⟩
 refine⟨I.ok,I.os,hg,⟨λb o e n hb hx=>?_,λb o e n hb hx=>?_,λb o e n hx=>?_,λb o e hx=>?_,λb xs e=>tups b xs (I.base.tups b xs e),λb o xs e=>jV b o xs (I.base.jV b o xs e),λb ps e=>?_⟩,?_,λx c e=>?_,?_,λx c e=>?_,λp hp=>?_,hok,I.len⟩
 .
  exact keep b o (neL b o e) hb (Yp b o e hx) (I.base.keep b o e n hb hx) (I.base.free b o e n hx)
 .
  obtain⟨sl,e1⟩:=I.base.slot b o e n hb hx
  obtain⟨Yq,e2⟩:=slot b _ (neL b o e) hb (Yp b o e hx) e1 (I.base.free b o e n hx)
  exact⟨Yq,e2⟩
 .
  obtain⟨o',e1⟩:=I.base.there b o e hx
  exact free b o' (Yp b o e hx) e1 (I.base.free b o e n hx)
 .
  obtain⟨o',e1⟩:=I.base.there b o e hx
  exact there b o' (Yp b o e hx) e1
 .
  obtain⟨m1,e1⟩:=I.base.jW b ps e
  obtain⟨m2,e2⟩:=jW b _ e1
  exact⟨m1++m2,by rw[e2,Array.append_assoc]⟩
 .
  obtain⟨m,hn,hl⟩:=I.loc
  refine⟨m,ns m hn,λi x v e1 e2 e3=>?_⟩
  obtain⟨u,r,l⟩:=hl i x v e1 e2 e3
  refine⟨u,r,?_⟩
  rcases l with l |⟨k,c,e,z⟩
  .
   exact .inl l
  .
   exact .inr ⟨k,c,e,cellK x c e _ z⟩
 .
  obtain⟨v,z⟩:=I.cell x c e
  exact⟨v,cellK x c e v z⟩
 .
  obtain⟨m,⟨o,_,_,ho,_⟩,_⟩:=I.loc
  exact free _ o (λz=>(hch _ z).2.1 rfl) ho I.free
 .
  obtain⟨v,o,ho,hd⟩:=I.cell x c e
  exact free c o (λz=>(hch c z).2.2.1 x c e rfl) ho (I.dJ x c e)
 .
  obtain⟨e,n,ne,nf,d⟩:=I.pin p hp
  have Vq:p.1∉ch:=λz=>(hch p.1 z).2.2.2 p hp rfl
  exact⟨keep p.1 p.2 ne nf Vq e n,free p.1 p.2 Vq e n,ne,nf,d⟩
theorem Inv.un{t':Nat}(I:Inv X ah σ H s)(u:Un X.fs [] H H' s.heap h')(hok:kX X.prog X.w H' h'):Inv X ah σ H' { s with heap:=h',toks:=t'}:=by
 obtain⟨m,⟨o,es,ep,ho,r⟩,_⟩:=id I.loc
 obtain⟨sl,hL⟩:=u.any ho I.free (by simp)
 exact I.step (g':=s.gens) (d':=s.drawn) (ch:=[]) (λ_ z=>nomatch z) (λb o _ hb _ e n=>u.keep b o e n hb (by simp)) (λb o _ hb _ e n=>u.slot b o e n hb (by simp)) (λb o _ e n=>u.free b o e n (by simp)) (λb o _ e=>u.there b o e (by simp)) u.tups u.jV u.jW (λm' hm=>by
  obtain⟨o',es',Jq,ho',r'⟩:=hm
  rw[ho]at ho';cases ho'
  exact⟨_,es',Jq,hL,r'⟩) hok I.bare
theorem Inv.call{g':Array GenState}{t':Nat}{d':Drawn}{ch:List Addr}(I:Inv X ah σ H s)(u:Un (frs X.stack) ch H H' s.heap h')(hok:kX X.prog X.w H' h')(hg:AllBare g')
  (hch:∀b∈ch,(b∈X.ex\/X.s₀⁻¹<=b)/\b≠X.env.locals/\(∀x c,X.env.cells.lookup x=some c->c≠b)/\∀p∈X.pn++ah,p.1≠b) :
  Inv X ah σ H' { s with heap:=h',gens:=g',drawn:=d',toks:=t'}:=by
 obtain⟨m,⟨o,es,ep,ho,r⟩,_⟩:=id I.loc
 obtain⟨sl,hL⟩:=u.any ho I.free λz=>(hch _ z).2.1 rfl
 exact I.step (ch:=ch) hch (λb o hL hb hc e n=>u.keep b o e n (λz=>(aaj.mp (I.wN b z)).elim hL hb) hc) (λb o _ _ hc e n=>u.any e n hc) (λb o hc e n=>u.free b o e n hc) (λb o hc e=>u.there b o e hc) u.tups u.jV u.jW (λm' hm=>by
  obtain⟨o',es',Jq,ho',r'⟩:=hm
  rw[ho]at ho';cases ho'
  exact⟨_,es',Jq,hL,r'⟩) hok hg
theorem Inv.turned{t':Nat}{it:Addr}(I:Inv X ah σ H s)(k:∀b o,b≠it->s.heap.get? b=some o->h'.get? b=some o)(hn:H it=none)(hL:it≠X.env.locals)
  (h1:it∈X.ex\/X.s₀⁻¹<=it) (h2:∀x c,X.env.cells.lookup x=some c->c≠it) (h3:∀p∈X.pn++ah,p.1≠it):Inv X ah σ H { s with heap:=h',toks:=t'}:=by
 have nit:∀b u,H b=some u->b≠it:=λb u e z=>by rw[z,hn]at e;cases e
 refine I.step (g':=s.gens) (d':=s.drawn) (ch:=[it]) (λb hb=>?_) (λb o _ _ hc e _=>k b o (λz=>hc (by simp[z])) e) (λb o _ _ hc e _=>⟨o.slots,k b o (λz=>hc (by simp[z])) e⟩) (λ_ _ _ _ n=>n)
  (λb o hc e=>⟨o,k b o (λz=>hc (by simp[z])) e⟩) (λ_ _ e=>e) (λ_ _ _ e=>e) (λb ps e=>⟨#[],by rw[e];simp⟩) (λm hm=>?_) (λb u e=>?_) I.bare
 .
  have e:b=it:=by simpa using hb
  subst e
  exact⟨h1,hL,h2,h3⟩
 .
  obtain⟨o,es,ep,ho,r⟩:=hm
  exact⟨o,es,ep,k _ o (aaX hL) ho,r⟩
 .
  refine (I.hok b u e).stay (λc v hc q=>k c v ?_ q) (λ_ q=>q) λ_ _ q=>q
  rcases hc with z |z
  .
   rw[z];exact nit b u e
  .
   exact nit c _ z
theorem Inv.tok(I:Inv X ah σ H s)(t:Nat):Inv X ah σ H { s with toks:=t}:=I.un (h':=s.heap) (t':=t) Un.refl I.hok
theorem Inv.kept{t':Nat}(I:Inv X ah σ H s)(k:∀b u,s.heap.get? b=some u->h'.get? b=some u):Inv X ah σ H { s with heap:=h',toks:=t'}:=I.un (Un.kept k) (I.hok.kept k)
theorem Inv.laid{a:Addr}{o:HO}{t':Nat}(I:Inv X ah σ H s)(k:∀b u,s.heap.get? b=some u->h'.get? b=some u)(hp:s⁻¹<=a)(new:dc X.prog X.w (upd H a o) h' a o) :
  Inv X ah σ (upd H a o) { s with heap:=h',toks:=t'}:=I.un (Un.laid k hp (I.hok.fresh hp)) (I.hok.laid k hp new)
theorem Inv.write(I:Inv X ah σ H s)(mu:Yn (H x))(he:e=x\/H e=some (.own x))(k:∀b u,b≠e->s.heap.get? b=some u->h'.get? b=some u)(UG:∃u,h'.get? e=some u)
  (new:dc X.prog X.w (upd H x o) h' x o):Inv X ah σ (upd H x o) { s with heap:=h',toks:=t'}:=I.un (Un.write mu he k UG) (I.hok.write mu he k UG new)
theorem Inv.yO(I:Inv X ah σ H s)(h:∀p∈Vr,s.heap.get? p.1=some p.2/\H p.1=none/\p.1≠X.env.locals/\p.1∉X.fs/\∀v,p.2.data≠.cell v):Inv X Vr σ H s:=
 ⟨I.ok,I.os,I.bare,I.base,I.loc,I.cell,I.free,I.dJ,λp hp=>(abH.mp hp).elim (λz=>I.pin p (abZ _ z)) (h p),I.hok,I.len⟩
theorem n6{N:List Str}(hN:N.Nodup){i j:Nat}{x:Str}(a:N[i]?=some x)(b:N[j]?=some x):i=j:=by
 obtain⟨h1,e1⟩:=aai.mp a
 obtain⟨h2,e2⟩:=aai.mp b
 exact (List.getElem_inj hN).mp (e1.trans e2.symm)
theorem qQ{M:Model}{A:Around}{E:Value->Shared->Prop}{i:Nat}{x:Str}{v:V}{u:Value}{Q:Unit->Shared->Prop}(I:Inv X ah σ H s)(hN:X.N.Nodup)(hi:X.N[i]?=some x)(hx:Loc X.env.scope x)(r:RelV v u)
  (h:∀s',Inv X ah (σ.set i (some v)) H s'->(∃a,Heap.SameBut a s.heap s'.heap/\(a=X.env.locals\/X.env.cells.lookup x=some a))->Q () s') (hf:X.fn x=true\/X.env.scope.names.lookup x=some .local:=by first |exact .inl rfl |exact .inr rfl |assumption):wpAny M A (storeName X.env x u) Q E s:=by
 obtain⟨m,hn,hl⟩:=id I.loc
 have hcls:(X.env.scope.kind==.class||(X.env.scope.kind==.module&&X.env.locals != X.env.globals))=false:=by rw[I.ok.kind];rfl
 have Vs:i<σ.length:=by rw[I.len];exact (aai.mp hi).1
 have O6:=I.O6
 have tracked:∀{a:Addr}{h':Heap},(∃o,s.heap.get? a=some o/\H a=none)->Heap.SameBut a s.heap h'->kX X.prog X.w H h':=λ{a h'} ha hs b ob e=>by
  obtain⟨_,_,hfree⟩:=ha
  refine (I.hok b ob e).stay (λc w' hc q=>(hs.2 c ?_).trans q) (λ_ q=>q) λ_ _ q=>q
  rintro rfl
  rcases hc with rfl |hc
  .
   rw[hfree]at e;cases e
  .
   rw[hfree]at hc;cases hc
 rcases hx with hk |hk
 .
  refine wpAny_storeName_local hk hn (λh' hn' hs=>?_) hcls
  obtain⟨oL,_,_,Yr,_⟩:=id hn
  refine h _ ⟨I.ok,I.os,I.bare,⟨λb o e n hb hx=>?_,λb o e n hb hx=>?_,I.base.free,λb o e hx=>?_,I.base.tups,I.base.jV,I.base.jW⟩,⟨_,hn',λj y v' e1 e2 e3=>?_⟩,λy c e=>?_,I.free,I.dJ,λp hp=>?_,tracked ⟨oL,Yr,I.free⟩ hs,by simpa using I.len⟩ ⟨_,hs,.inl rfl⟩
  .
   exact (hs.2 b (aaG (aan (aas e) I.ok.above))).trans (I.base.keep b o e n hb hx)
  .
   obtain⟨sl,e1⟩:=I.base.slot b o e n hb hx
   exact⟨sl,(hs.2 b (aaG (aan (aas e) I.ok.above))).trans e1⟩
  .
   obtain⟨o',e1⟩:=I.base.there b o e hx
   exact⟨o',(hs.2 b (aaG (aan (aas e) I.ok.above))).trans e1⟩
  .
   by_cases hj:j=i
   .
    subst hj
    rw[hi]at e1;cases e1
    rw[aax Vs]at e2
    cases e2
    exact⟨u,r,.inl ⟨hk,by simp⟩⟩
   .
    rw[aar (aaX hj)]at e2
    obtain⟨u',r',q⟩:=hl j y v' e1 e2 e3
    refine⟨u',r',?_⟩
    rcases q with ⟨k,e⟩ |⟨k,c,e,z⟩
    .
     refine .inl ⟨k,?_⟩
     have:y≠x:=λe=>hj (n6 hN e1 (e▸hi))
     simp[this,e]
    .
     exact .inr ⟨k,c,e,z.sameBut hs (O6 y c e)⟩
  .
   obtain⟨w',z⟩:=I.cell y c e
   exact⟨w',z.sameBut hs (O6 y c e)⟩
  .
   obtain⟨e,n,ne,nf,d⟩:=I.pin p hp
   exact⟨(hs.2 p.1 ne).trans e,n,ne,nf,d⟩
 .
  have hfn:X.fn x=true:=by
   rcases hf with z |z
   .
    exact z
   .
    rw[z]at hk;cases hk
  obtain⟨c,hc⟩:=I.ok.has x (.inl hk)
  obtain⟨w',z⟩:=I.cell x c hc
  refine wpAny_storeName_cell I.ok.kind hk hc z (λh' hc' hs=>?_)
  obtain⟨oc,hoc,Zn⟩:=id z
  refine h { s with heap:=h'} ⟨I.ok,I.os,I.bare,⟨λb o e n hb hx=>?_,λb o e n hb hx=>?_,I.base.free,λb o e hx=>?_,I.base.tups,I.base.jV,I.base.jW⟩,⟨m,hn.sameBut hs (aaX (O6 x c hc)),λj y v' e1 e2 e3=>?_⟩,λy c' e=>?_,I.free,I.dJ,λp hp=>?_,tracked ⟨oc,hoc,I.dJ x c hc⟩ hs,by simpa using I.len⟩ ⟨c,hs,.inr hc⟩
  .
   exact (hs.2 b (aaG (aan (aas e) (I.ok.O5 x c hfn hc)))).trans (I.base.keep b o e n hb hx)
  .
   obtain⟨sl,e1⟩:=I.base.slot b o e n hb hx
   exact⟨sl,(hs.2 b (aaG (aan (aas e) (I.ok.O5 x c hfn hc)))).trans e1⟩
  .
   obtain⟨o',e1⟩:=I.base.there b o e hx
   exact⟨o',(hs.2 b (aaG (aan (aas e) (I.ok.O5 x c hfn hc)))).trans e1⟩
  .
   by_cases hj:j=i
   .
    subst hj
    rw[hi]at e1;cases e1
    rw[aax Vs]at e2
    cases e2
    exact⟨u,r,.inr ⟨.inl hk,c,hc,hc'⟩⟩
   .
    rw[aar (aaX hj)]at e2
    obtain⟨u',r',q⟩:=hl j y v' e1 e2 e3
    refine⟨u',r',?_⟩
    rcases q with q |⟨k,c',e,z'⟩
    .
     exact .inl q
    .
     refine .inr ⟨k,c',e,z'.sameBut hs ?_⟩
     rintro rfl
     exact hj (n6 hN e1 (I.ok.inj _ _ _ e hc▸hi))
  .
   by_cases hcc:c'=c
   .
    subst hcc;exact⟨_,hc'⟩
   .
    obtain⟨w2,z2⟩:=I.cell y c' e
    exact⟨w2,z2.sameBut hs hcc⟩
  .
   obtain⟨e,n,ne,nf,d⟩:=I.pin p hp
   refine⟨(hs.2 p.1 ?_).trans e,n,ne,nf,d⟩
   intro q
   rw[q,hoc]at e
   have q':oc=p.2:=aa1 e
   exact d w' (by rw[<- q'];exact Zn)
theorem iz{M:Model}{A:Around}{E:Value->Shared->Prop}{i:Nat}{x:Str}{v:V}{u:Value}{Q:Unit->Shared->Prop}(I:Inv X ah σ H s)(hN:X.N.Nodup)(hi:X.N[i]?=some x)(hx:Loc X.env.scope x)(r:RelV v u)
  (h:∀s',Inv X ah (σ.set i (some v)) H s'->Q () s') (hf:X.fn x=true\/X.env.scope.names.lookup x=some .local:=by first |exact .inl rfl |exact .inr rfl |assumption):wpAny M A (storeName X.env x u) Q E s:=
 qQ I hN hi hx r (λs' I' _=>h s' I') hf
theorem Inv.call'(I:Inv X ah σ H s)(ho:s'.os=s.os)(u:Un (frs X.stack) ch H H' s.heap s'.heap)(hok:kX X.prog X.w H' s'.heap)(hg:AllBare s'.gens)
  (hch:∀b∈ch,(b∈X.ex\/X.s₀⁻¹<=b)/\b≠X.env.locals/\(∀x c,X.env.cells.lookup x=some c->c≠b)/\∀p∈X.pn++ah,p.1≠b):Inv X ah σ H' s':=by
 obtain⟨h',g',d',t',o'⟩:=s'
 have e:o'=s.os:=ho
 subst e
 exact I.call (g':=g') (t':=t') (d':=d') u hok hg hch
end
abbrev XK:=Value->Option Addr->Hp->Prop
abbrev St:=List (Option V)
abbrev VK:=V->Hp->Prop
abbrev TE:=St->Hp->VK->Prop
abbrev TT:=St->Hp->(Bool->Hp->Prop)->Prop
abbrev TA:=St->Hp->(List V->Hp->Prop)->Prop
structure Ends where
 nx:St->Hp->Prop
 rt:VK
 bk:St->Hp->Prop:=λ_ _=>False
 ct:St->Hp->Prop:=λ_ _=>False
abbrev TS:=Ends->St->Hp->Prop
noncomputable def EP(X:Cx)(ah:List (Addr×Obj))(σ:St)(Q:VK)(u:Value)(s':Shared):Prop:=∃v H',Inv X ah σ H' s'/\RelV v u/\Q v H'
def TP(X:Cx)(ah:List (Addr×Obj))(σ:St)(Q:Bool->Hp->Prop)(b:Bool)(s':Shared):Prop:=∃H',Inv X ah σ H' s'/\Q b H'
noncomputable def AP(X:Cx)(ah:List (Addr×Obj))(σ:St)(Q:List V->Hp->Prop)(us:List Value)(s':Shared):Prop:=∃vs H',Inv X ah σ H' s'/\Vals vs us/\Q vs H'
noncomputable def SP(X:Cx)(ah:List (Addr×Obj))(D:Ends)(f:Flow)(s':Shared):Prop:=
 match f with
 |.next=>∃σ' H',Inv X ah σ' H' s'/\D.nx σ' H'
 |.brk=>∃σ' H',Inv X ah σ' H' s'/\D.bk σ' H'
 |.cont=>∃σ' H',Inv X ah σ' H' s'/\D.ct σ' H'
 |.ret u=>∃v σ' H',Inv X ah σ' H' s'/\RelV v u/\D.rt v H'
noncomputable def PE(X:Cx)(e:Expr)(t:TE):Prop:=
 ∀(ah:List (Addr×Obj)) (s:Shared) (σ:St) (H:Hp) (Q:VK),Inv X ah σ H s->t σ H Q->wpAny (model X.prog X.w) X.A (eval e X.env) (EP X ah σ Q) X.xe s
def PT(X:Cx)(e:Expr)(t:TT):Prop:=
 ∀(ah:List (Addr×Obj)) (s:Shared) (σ:St) (H:Hp) (Q:Bool->Hp->Prop),Inv X ah σ H s->t σ H Q->wpAny (model X.prog X.w) X.A (isTrue e X.env (eval e X.env)) (TP X ah σ Q) X.xe s
def PW(X:Cx)(e:Expr)(t:TT):Prop:=
 ∀(whole:Sem Value) (ah:List (Addr×Obj)) (s:Shared) (σ:St) (H:Hp) (Q:Bool->Hp->Prop),Inv X ah σ H s->t σ H Q->wpAny (model X.prog X.w) X.A (isTrue e X.env whole) (TP X ah σ Q) X.xe s
theorem PW.pt{X:Cx}{e:Expr}{t:TT}(h:PW X e t):PT X e t:=h _
noncomputable def PA(X:Cx)(es:List Expr)(t:TA):Prop:=
 ∀(pos:Pos) (ah:List (Addr×Obj)) (s:Shared) (σ:St) (H:Hp) (Q:List V->Hp->Prop),Inv X ah σ H s->t σ H Q->wpAny (model X.prog X.w) X.A (spliced (backTo pos (starEach es X.env))) (AP X ah σ Q) X.xe s
noncomputable def PS(X:Cx)(st:Stmt)(t:TS):Prop:=
 ∀(ah:List (Addr×Obj)) (s:Shared) (σ:St) (H:Hp) (D:Ends),Inv X ah σ H s->t D σ H->wpAny (model X.prog X.w) X.A (exec st X.env) (SP X ah D) X.xe s
noncomputable def su(X:Cx)(st:List Stmt)(t:TS):Prop:=
 ∀(ah:List (Addr×Obj)) (s:Shared) (σ:St) (H:Hp) (D:Ends),Inv X ah σ H s->t D σ H->wpAny (model X.prog X.w) X.A (execs st X.env) (SP X ah D) X.xe s
theorem bN{α:Type}{t:Sem α}{Q Q':α->Shared->Prop}{M:Model}{A:Around}{E:Value->Shared->Prop}{s:Shared}(h:wpAny M A t Q E s)(hQ:∀a s,Q a s->Q' a s):wpAny M A t Q' E s:=aaN h hQ λ_ _ x=>x
section
variable{X:Cx}
theorem bin{a b:Expr}{ta tb:TE}(ha:PE X a ta)(hb:PE X b tb){ah:List (Addr×Obj)}{s:Shared}{σ:St}{H:Hp}{R:V->V->Hp->Prop}(I:Inv X ah σ H s)(h:ta σ H λx H1=>tb σ H1 λy H2=>R x y H2)
  {α:Type}{Q:α->Shared->Prop}{f:Value->Value->Sem α}
  (hf:∀v u s2 x y H2,Inv X ah σ H2 s2->RelV x v->RelV y u->R x y H2->wpAny (model X.prog X.w) X.A (f v u) Q X.xe s2) :
  wpAny (model X.prog X.w) X.A (eval a X.env) (λv s₁=>wpAny (model X.prog X.w) X.A (eval b X.env) (λu s₂=>wpAny (model X.prog X.w) X.A (f v u) Q X.xe s₂) X.xe s₁) X.xe s:=by
 refine bN (ha ah s σ H _ I h) λv s1 ⟨x,H1,I1,r1,q1⟩=>?_
 refine bN (hb ah s1 σ H1 _ I1 q1) λu s2 ⟨y,H2,I2,r2,q2⟩=>?_
 exact hf v u s2 x y H2 I2 r1 r2 q2
noncomputable def Vt(i:Nat):TE:=λσ H Q=>∃v,σ[i]?=some (some v)/\Q v H
noncomputable def tC(v:V):TE:=λ_ H Q=>Q v H
theorem dQ(hN:X.N[i]?=some x)(hv:nI X.env.scope x)(hd:(x==("__debug__" : Str))=false:=by decide)(bD:(x==("__classdict__" : Str))=false:=by decide):PE X (.Name x pos) (Vt i):=by
 intro ah s σ H Q I h
 obtain⟨v,e,h⟩:=h
 obtain⟨m,hn,hl⟩:=I.loc
 obtain⟨u,r,l⟩:=hl i x v hN e hv
 have fin:EP X ah σ Q u s:=⟨v,H,I,r,h⟩
 rcases l with ⟨hk,hm⟩ |⟨hk,c,hc,hcell⟩
 .
  exact wpAny_Name (wpAny_loadName_local I.ok.kind hk hn hm fin) hd
 .
  rcases hk with hk |hk
  .
   exact wpAny_Name (wpAny_loadName_cell I.ok.kind hk hc hcell fin) hd
  .
   exact wpAny_Name (wpAny_loadName_free I.ok.kind hk hc hcell fin bD) hd
theorem DK{i j pos}:PE X (.Constant (.int i) j pos) (tC (.int i)):=λ_ _ _ H _ I h=>wpAny_Constant_int ⟨.int i,H,I.tok _,⟨_,rfl⟩,h⟩
theorem Vu{b j pos}:PE X (.Constant (.bool b) j pos) (tC (.bl b)):=λ_ _ _ H _ I h=>Constant_bool ⟨.bl b,H,I,rfl,h⟩
theorem DN{j pos}:PE X (.Constant .none j pos) (tC .non):=λ_ _ _ H _ I h=>Constant_none ⟨.non,H,I,rfl,h⟩
theorem O7{x j pos}:PE X (.Constant (.str x) j pos) (tC (.str x)):=λ_ _ _ H _ I h=>Calls.Constant_str ⟨.str x,H,I.tok _,⟨_,rfl⟩,h⟩
def Gl(X:Cx)(x:Str):Prop:=X.env.kindOf x=some .globalImplicit
theorem fE{E:Value->Shared->Prop}{ah:List (Addr×Obj)}{s:Shared}{σ:St}{H:Hp}{x:Str}{u:Value}{pos:Pos}{Q:Value->Shared->Prop}(I:Inv X ah σ H s)(hg:Gl X x)(hm:X.mg x=some u)(h:Q u s)
  (hd:(x==("__debug__" : Str))=false:=by decide):wpAny (model X.prog X.w) X.A (eval (.Name x pos) X.env) Q E s:=
 Calls.Name_function_global I.ok.kind hg (Calls.loadGlobal_global (by rw[I.ok.glob];exact I.mod.glob.keeps I.bk) hm h) hd
theorem gH{E:Value->Shared->Prop}{ah:List (Addr×Obj)}{s:Shared}{σ:St}{H:Hp}{x:Str}{u:Value}{pos:Pos}{Q:Value->Shared->Prop}(I:Inv X ah σ H s)(hg:Gl X x)(hm:X.mg x=none)(hv:bootBuiltins x=some u)(h:Q u s)
  (hn:x≠ "__name__" :=by decide) (hd:(x==("__debug__" : Str))=false:=by decide):wpAny (model X.prog X.w) X.A (eval (.Name x pos) X.env) Q E s:=by
 obtain⟨mb,h1,h2⟩:=I.mod.blt
 exact Calls.Name_function_global I.ok.kind hg (Calls.loadGlobal_builtin (by rw[I.ok.glob];exact I.mod.glob.keeps I.bk) hm (by rw[I.ok.blt];exact h1.keeps I.bk) ((h2 x hn).trans hv) h) hd
theorem yP(hg:Gl X x)(hm:X.mg x=some u)(r:RelV v u)(hd:(x==("__debug__" : Str))=false:=by decide):PE X (.Name x pos) (tC v):=
 λ_ _ _ H _ I h=>fE I hg hm ⟨v,H,I,r,h⟩ hd
theorem sy(hg:Gl X x)(hm:X.mg x=none)(hv:bootBuiltins x=some u)(r:RelV v u)(hn:x≠ "__name__" :=by decide)(hd:(x==("__debug__" : Str))=false:=by decide):PE X (.Name x pos) (tC v):=
 λ_ _ _ H _ I h=>gH I hg hm hv ⟨v,H,I,r,h⟩ hn hd
variable{a b:Expr}{ta tb:TE}{pos:Pos}
noncomputable def tB(t:TE):TT:=λσ H Q=>t σ H λx H1=>∃c,x=.bl c/\Q c H1
theorem O8{e:Expr}{t:TE}(h:PE X e t)(he:∀whole,isTrue e X.env whole=(do let v <- whole;standAt e.pos;holding [v] (truthy v)):=by intro _;rfl):PT X e (tB t):=by
 intro ah s σ H Q I hw
 refine isTrue_plain (bN (h ah s σ H _ I hw) λv s1 ⟨x,H1,I1,r1,q1⟩=>?_) (he _)
 obtain⟨d,rfl,q⟩:=q1
 cases r1
 exact aaT ⟨H1,I1,q⟩
variable{tA Ys:TT}{rest:List Expr}
noncomputable def Zo(t u:TT):TT:=λσ H Q=>t σ H λc H1=>if c=true then u σ H1 Q else Q false H1
noncomputable def tOr(t u:TT):TT:=λσ H Q=>t σ H λc H1=>if c=true then Q true H1 else u σ H1 Q
noncomputable def Zq(t:TT):TT:=λσ H Q=>t σ H λc H1=>Q (!c) H1
theorem pw_and1(ha:PT X a tA):PW X (.BoolOp .And [a] pos) tA:=by
 intro wh ah s σ H Q I h
 refine isTrue_and (bN (ha ah s σ H Q I h) λc s1 e=>?_)
 cases c with
 |true=>exact isTrue_and_nil e
 |false=>exact e
theorem pw_or1(ha:PT X a tA):PW X (.BoolOp .Or [a] pos) tA:=by
 intro wh ah s σ H Q I h
 refine isTrue_or (bN (ha ah s σ H Q I h) λc s1 e=>?_)
 cases c with
 |false=>exact isTrue_or_nil e
 |true=>exact e
theorem pw_and(ha:PT X a tA)(hb:PW X (.BoolOp .And (b::rest) pos) Ys):PW X (.BoolOp .And (a::b::rest) pos) (Zo tA Ys):=by
 intro wh ah s σ H Q I h
 refine isTrue_and (bN (ha ah s σ H _ I h) λc s1 ⟨H1,I1,q1⟩=>?_)
 cases c with
 |true=>exact hb wh ah s1 σ H1 Q I1 q1
 |false=>exact⟨H1,I1,q1⟩
theorem pw_or(ha:PT X a tA)(hb:PW X (.BoolOp .Or (b::rest) pos) Ys):PW X (.BoolOp .Or (a::b::rest) pos) (tOr tA Ys):=by
 intro wh ah s σ H Q I h
 refine isTrue_or (bN (ha ah s σ H _ I h) λc s1 ⟨H1,I1,q1⟩=>?_)
 cases c with
 |true=>exact⟨H1,I1,q1⟩
 |false=>exact hb wh ah s1 σ H1 Q I1 q1
theorem DP(ha:PT X a tA):PT X (.UnaryOp .Not a pos) (Zq tA):=by
 intro ah s σ H Q I h
 exact isTrue_not (ha ah s σ H (λc H1=>Q (!c) H1) I h)
noncomputable def Vv(ta tb:TE):TE:=λσ H Q=>ta σ H λx H1=>∃c,x=.bl c/\if c=true then tb σ H1 Q else Q (.bl false) H1
noncomputable def Zr(ta tb:TE):TE:=λσ H Q=>ta σ H λx H1=>∃c,x=.bl c/\if c=true then Q (.bl true) H1 else tb σ H1 Q
noncomputable def Vw(ta:TE):TE:=λσ H Q=>ta σ H λx H1=>∃c,x=.bl c/\Q (.bl (!c)) H1
theorem O9{op}(h:PE X a t):PE X (.BoolOp op [a] pos) t:=λah s σ H Q I hw=>BoolOp_one (h ah s σ H Q I hw)
theorem DQ(ha:PE X a ta)(hb:PE X (.BoolOp .And (b::rest) pos) tb):PE X (.BoolOp .And (a::b::rest) pos) (Vv ta tb):=by
 intro ah s σ H Q I h
 refine BoolOp_and (bN (ha ah s σ H _ I h) λv s1 ⟨x,H1,I1,r1,q1⟩=>?_)
 obtain⟨c,rfl,q1⟩:=q1
 cases r1
 refine aaT ?_
 cases c with
 |true=>exact hb ah s1 σ H1 Q I1 q1
 |false=>exact⟨.bl false,H1,I1,rfl,q1⟩
theorem NK(ha:PE X a ta)(hb:PE X (.BoolOp .Or (b::rest) pos) tb):PE X (.BoolOp .Or (a::b::rest) pos) (Zr ta tb):=by
 intro ah s σ H Q I h
 refine BoolOp_or (bN (ha ah s σ H _ I h) λv s1 ⟨x,H1,I1,r1,q1⟩=>?_)
 obtain⟨c,rfl,q1⟩:=q1
 cases r1
 refine aaT ?_
 cases c with
 |false=>exact hb ah s1 σ H1 Q I1 q1
 |true=>exact⟨.bl true,H1,I1,rfl,q1⟩
theorem Pa(ha:PE X a ta):PE X (.UnaryOp .Not a pos) (Vw ta):=by
 intro ah s σ H Q I h
 refine UnaryOp_ (bN (ha ah s σ H _ I h) λv s1 ⟨x,H1,I1,r1,q1⟩=>?_)
 obtain⟨c,rfl,q1⟩:=q1
 cases r1
 exact not_of (aaT ⟨.bl (!c),H1,I1,rfl,q1⟩)
noncomputable def tIf(t:TT)(ta tb:TE):TE:=λσ H Q=>t σ H λc H1=>if c=true then ta σ H1 Q else tb σ H1 Q
theorem uF{c:Expr}(hc:PT X c tA)(ha:PE X a ta)(hb:PE X b tb):PE X (.IfExp c a b pos) (tIf tA ta tb):=by
 intro ah s σ H Q I h
 refine wpAny_IfExp (bN (hc ah s σ H _ I h) λd s1 ⟨H1,I1,q1⟩=>?_)
 cases d with
 |true=>exact ha ah s1 σ H1 Q I1 q1
 |false=>exact hb ah s1 σ H1 Q I1 q1
end
noncomputable def cK(K:Frag)(H:Hp)(a:Addr)(xs:List V):Prop:=
 Rd H a (.lst xs)\/
  ∃(o:Obj) (its:Array Value) (n:Nat),K.lookup a=some o/\o.cls=.type "list" /\o.dict=none/\o.data=.seq its n/\its.size<=sizeLine/\Vals xs its.toList
noncomputable def iA(K:Frag)(H:Hp)(a:Addr)(xs:List V):Prop:=
 Rd H a (.tup xs)\/
  ∃(o:Obj) (its:Array Value) (n:Nat),K.lookup a=some o/\o.cls=.type "tuple" /\o.data=.seq its n/\its.size<=sizeLine/\Vals xs its.toList
noncomputable def Zt:Value->Option V
 |.none=>some .non
 |.bool b=>some (.bl b)
 |.int i _=>some (.int i)
 |.str x _=>some (.str x)
 |.bytes b _=>some (.O2 b)
 |.float b _=>some (.flt b)
 |.ref a=>some (.ref a)
 |.type n=>some (.ty n)
 |_=>none
theorem RelV.abs(r:RelV x u):Zt u=some x:=by
 cases x with
 |non=>cases r;rfl
 |bl _=>cases r;rfl
 |int _=>obtain⟨t,rfl⟩:=r;rfl
 |str _=>obtain⟨t,rfl⟩:=r;rfl
 |O2 _=>obtain⟨t,rfl⟩:=r;rfl
 |flt _=>obtain⟨t,rfl⟩:=r;rfl
 |ref _=>cases r;rfl
 |ty _=>cases r;rfl
theorem RelV.inj{x y:V}{u:Value}(r:RelV x u)(q:RelV y u):x=y:=aa1 (r.abs.symm.trans q.abs)
theorem Vals.inj:∀{xs ys:List V}{us:List Value},Vals xs us->Vals ys us->xs=ys
 |_,_,_,.nil,.nil=>rfl
 |_,_,_,.cons r t,.cons r' t'=>by rw[r.inj r',Vals.inj t t']
section
variable{X:Cx}{ah:List (Addr×Obj)}{σ:St}{H:Hp}{s:Shared}{a:Addr}{xs ys:List V}
theorem cK.of{K:Frag}(h:H a=some (.lst xs)):cK K H a xs:=.inl (.inl h)
theorem Inv.list(I:Inv X ah σ H s)(h:cK X.K H a xs):∃its:List Value,Vals xs its/\PlainL s.heap a its.toArray/\xs.length<=sizeLine:=by
 rcases h with h |⟨o,its,n,hk,hc,hd,hs,hz,r⟩
 .
  obtain⟨z,its,n,r,e⟩:=h.ok I.hok
  exact⟨its,r,⟨_,n,e,rfl,rfl,rfl⟩,z⟩
 .
  refine⟨its.toList,r,⟨o,n,I.nh a o hk,hc,hd,by simpa using hs⟩,?_⟩
  have e:=r.length
  simp only[aa9]at e
  lia
theorem Inv.tuple(I:Inv X ah σ H s)(h:iA X.K H a xs):∃its:List Value,Vals xs its/\IsTup s.heap a its.toArray/\xs.length<=sizeLine:=by
 rcases h with h |⟨o,its,n,hk,hc,hs,hz,r⟩
 .
  obtain⟨z,its,r,p⟩:=h.ok I.hok
  exact⟨its,r,p.tup,z⟩
 .
  refine⟨its.toList,r,⟨o,I.nh a o hk,hc,n,by simpa using hs⟩,?_⟩
  have e:=r.length
  simp only[aa9]at e
  lia
theorem Inv.uG(I:Inv X ah σ H s)(h:cK X.K H a xs)(h':cK X.K H a ys):xs=ys:=by
 obtain⟨its,r,⟨o,n,e,_,_,d⟩,_⟩:=I.list h
 obtain⟨its',r',⟨o',n',e',_,_,d'⟩,_⟩:=I.list h'
 rw[e]at e';cases e'
 rw[d]at d'
 injection d' with d1 _
 have:its=its':=by simpa using congrArg Array.toList d1
 subst this
 exact r.inj r'
theorem Inv.qR(I:Inv X ah σ H s)(h:iA X.K H a xs)(h':iA X.K H a ys):xs=ys:=by
 obtain⟨its,r,⟨o,e,_,n,d⟩,_⟩:=I.tuple h
 obtain⟨its',r',⟨o',e',_,n',d'⟩,_⟩:=I.tuple h'
 rw[e]at e';cases e'
 rw[d]at d'
 injection d' with d1 _
 have:its=its':=by simpa using congrArg Array.toList d1
 subst this
 exact r.inj r'
end
abbrev Cx.wish(X:Cx)(E:Value->Shared->Prop):Cx:={ X with xe:=E}
abbrev Cx.mj(X:Cx):Cx:=X.wish λ_ _=>False
theorem Cx.Ok.wish{X:Cx}(ok:X.Ok)(E:Value->Shared->Prop):(X.wish E).Ok:=
 ⟨ok.mod,ok.kind,ok.glob,ok.blt,ok.above,ok.inj,ok.has,ok.O5,ok.hd,ok.frames,ok.stk,ok.UJ,ok.bs,ok.DG,ok.uE,ok.wM,ok.jX,ok.Jp⟩
theorem Cx.Ok.cP{X:Cx}{E:Value->Shared->Prop}(ok:(X.wish E).Ok):X.Ok:=
 ⟨ok.mod,ok.kind,ok.glob,ok.blt,ok.above,ok.inj,ok.has,ok.O5,ok.hd,ok.frames,ok.stk,ok.UJ,ok.bs,ok.DG,ok.uE,ok.wM,ok.jX,ok.Jp⟩
section
variable{X:Cx}{ah:List (Addr×Obj)}{σ:St}{H:Hp}{s:Shared}{E:Value->Shared->Prop}
theorem Inv.wish(I:Inv X ah σ H s)(E:Value->Shared->Prop):Inv (X.wish E) ah σ H s:=⟨I.ok.wish E,I.os,I.bare,I.base,I.loc,I.cell,I.free,I.dJ,I.pin,I.hok,I.len⟩
theorem Inv.cP(I:Inv (X.wish E) ah σ H s):Inv X ah σ H s:=⟨I.ok.cP,I.os,I.bare,I.base,I.loc,I.cell,I.free,I.dJ,I.pin,I.hok,I.len⟩
theorem SP.cP(h:SP (X.wish E) ah D f s'):SP X ah D f s':=by
 cases f with
 |next=>obtain⟨σ',H',I,q⟩:=h;exact⟨σ',H',I.cP,q⟩
 |brk=>obtain⟨σ',H',I,q⟩:=h;exact⟨σ',H',I.cP,q⟩
 |cont=>obtain⟨σ',H',I,q⟩:=h;exact⟨σ',H',I.cP,q⟩
 |ret u=>obtain⟨v,σ',H',I,r,q⟩:=h;exact⟨v,σ',H',I.cP,r,q⟩
theorem PE.mj(h:PE X.mj e t):PE X e t:=λah s σ H Q I hw=>
 aaN (h ah s σ H Q (I.wish _) hw) (λ_ _ ⟨v,H',I',r,q⟩=>⟨v,H',I'.cP,r,q⟩) λ_ _ z=>False.elim z
theorem PT.mj(h:PT X.mj e t):PT X e t:=λah s σ H Q I hw=>
 aaN (h ah s σ H Q (I.wish _) hw) (λ_ _ ⟨H',I',q⟩=>⟨H',I'.cP,q⟩) λ_ _ z=>False.elim z
theorem su.mj{st:List Stmt}{t:TS}(h:su X.mj st t):su X st t:=λah s σ H D I hw=>
 aaN (h ah s σ H D (I.wish _) hw) (λ_ _ q=>q.cP) λ_ _ z=>False.elim z
end
section
variable{X:Cx}{st:Stmt}{rest:List Stmt}{t u:TS}{e:Expr}{te:TE}{pos:Pos}
noncomputable def Vx:TS:=λD σ H=>D.nx σ H
noncomputable def Vy(t u:TS):TS:=λD σ H=>t { D with nx:=u D} σ H
theorem Jr:su X [] Vx:=λ_ _ σ H _ I h=>wpAny_execs_nil ⟨σ,H,I,h⟩
theorem eH(h1:PS X st t)(h2:su X rest u):su X (st::rest) (Vy t u):=by
 intro ah s σ H D I h
 refine ab2 (bN (h1 ah s σ H { D with nx:=u D} I h) λf s1 q=>?_)
 cases f with
 |next=>
  obtain⟨σ',H',I',q⟩:=q
  exact h2 ah s1 σ' H' D I' q
 |ret v=>exact q
 |brk=>exact q
 |cont=>exact q
theorem Js(h1:PS X st t):su X [st] t:=by
 intro ah s σ H D I h
 refine ab2 (bN (h1 ah s σ H D I h) λf s1 q=>?_)
 cases f with
 |next=>exact wpAny_execs_nil q
 |ret v=>exact q
 |brk=>exact q
 |cont=>exact q
theorem Inv.quiet{ah:List (Addr×Obj)}{σ:St}{H:Hp}{s:Shared}(I:Inv X ah σ H s):interactive X.env=false:=by simp[interactive,I.ok.kind]
noncomputable def Vz(te:TE):TS:=λD σ H=>te σ H λ_ H1=>D.nx σ H1
theorem sD(he:PE X e te)(hs:swapsWith e none pos.line X.env=pure false:=by rfl):PS X (.Expr e pos) (Vz te):=by
 intro ah s σ H D I h
 exact wpAny_Expr_any (bN (he ah s σ H _ I h) λv s1 ⟨x,H1,I1,r1,q1⟩=>⟨σ,H1,I1,q1⟩) I.quiet hs
noncomputable def Zu(te:TE):TS:=λD σ H=>te σ H D.rt
theorem wO(he:PE X e te):PS X (.Return (some e) pos) (Zu te):=by
 intro ah s σ H D I h
 exact wpAny_Return_some (bN (he ah s σ H _ I h) λv s1 ⟨x,H1,I1,r1,q1⟩=>⟨x,σ,H1,I1,r1,q1⟩)
noncomputable def Zv(c:TT)(t u:TS):TS:=λD σ H=>c σ H λb H1=>if b=true then t D σ H1 else u D σ H1
theorem n8{c:Expr}{a b:List Stmt}{tc:TT}(hc:PT X c tc)(ha:su X a t)(hb:su X b u):PS X (.If c a b pos) (Zv tc t u):=by
 intro ah s σ H D I h
 refine wpAny_If (bN (hc ah s σ H _ I h) λd s1 ⟨H1,I1,q1⟩=>?_)
 cases d with
 |true=>exact ha ah s1 σ H1 D I1 q1
 |false=>exact hb ah s1 σ H1 D I1 q1
noncomputable def Pb:TS:=λ_ _ _=>False
theorem bu:su X jk Pb:=λ_ _ _ _ _ _ h=>h.elim
end
abbrev TG:=V->St->Hp->(St->Hp->Prop)->Prop
abbrev UL:=List V->St->Hp->(St->Hp->Prop)->Prop
noncomputable def PG(X:Cx)(target:Expr)(t:TG):Prop:=
 ∀(ah:List (Addr×Obj)) (s:Shared) (σ:St) (H:Hp) (v:V) (u:Value) (Q:St->Hp->Prop),Inv X ah σ H s->RelV v u->t v σ H Q->
  wpAny (model X.prog X.w) X.A (assign target X.env u) (λ_ s'=>∃σ' H',Inv X ah σ' H' s'/\Q σ' H') X.xe s
noncomputable def VB(X:Cx)(ts:List Expr)(t:UL):Prop:=
 ∀(ah:List (Addr×Obj)) (s:Shared) (σ:St) (H:Hp) (vs:List V) (us:List Value) (Q:St->Hp->Prop),Inv X ah σ H s->Vals vs us->t vs σ H Q->
  wpAny (model X.prog X.w) X.A (assignInOrder ((assignEach ts X.env).map (·.2)) us) (λ_ s'=>∃σ' H',Inv X ah σ' H' s'/\Q σ' H') X.xe s
abbrev Ph:=V->V->V->Hp->(Hp->Prop)->Prop
noncomputable def VD(X:Cx)(t:Ph):Prop:=
 ∀(ah:List (Addr×Obj)) (s:Shared) (σ:St) (H:Hp) (o i v:V) (ov iv u:Value) (Q:Hp->Prop),Inv X ah σ H s->RelV o ov->RelV i iv->RelV v u->t o i v H Q->
  wpAny (model X.prog X.w) X.A (setItem ov iv u) (λ_ s'=>∃H',Inv X ah σ H' s'/\Q H') X.xe s
section
variable{X:Cx}{pos:Pos}
noncomputable def yQ(i:Nat):TG:=λv σ H Q=>Q (σ.set i (some v)) H
theorem sE(hN:X.N.Nodup)(hi:X.N[i]?=some x)(hx:Loc X.env.scope x)(hf:X.fn x=true\/X.env.scope.names.lookup x=some .local:=by first |exact .inl rfl |exact .inr rfl |assumption):PG X (.Name x pos) (yQ i):=by
 intro ah s σ H v u Q I r h
 exact wpAny_assign_Name (iz I hN hi hx r (λs' I'=>⟨_,H,I',h⟩) hf)
noncomputable def Zw:UL:=λvs σ H Q=>vs=[]/\Q σ H
noncomputable def VF(t:TG)(u:UL):UL:=λvs σ H Q=>∃v r,vs=v::r/\t v σ H λσ' H'=>u r σ' H' Q
theorem yR:VB X [] Zw:=by
 intro ah s σ H vs us Q I r h
 obtain⟨e,h⟩:=h
 subst e
 cases r
 exact assignInOrder_nil ⟨σ,H,I,h⟩
theorem n9{e:Expr}{es:List Expr}{t:TG}{u:UL}(h1:PG X e t)(h2:VB X es u)
  (hs:(assignEach (e::es) X.env).map (·.2)=assign e X.env::(assignEach es X.env).map (·.2):=by rfl):VB X (e::es) (VF t u):=by
 intro ah s σ H vs us Q I r h
 obtain⟨v,vr,e1,h⟩:=h
 subst e1
 cases r with
 |cons r rr=>
  rw[hs]
  refine assignInOrder_cons (bN (h1 ah s σ H _ _ _ I r h) λ_ s1 ⟨σ1,H1,I1,q1⟩=>?_)
  exact h2 ah s1 σ1 H1 _ _ Q I1 rr q1
noncomputable def Zx(K:Frag)(n:Nat)(t:UL):TG:=λv σ H Q=>∃a xs,v=.ref a/\iA K H a xs/\xs.length=n/\t xs σ H Q
theorem DR(hc:X.calm=true)(h:VB X es t)
  (hn:(assignEach es X.env).length=n:=by rfl) (d9:(assignEach es X.env).findIdx? (·.1)=none:=by rfl):PG X (.Tuple es k pos) (Zx X.K n t):=by
 intro ah s σ H v u Q I r hw
 obtain⟨a,xs,e1,hq,hl,hw⟩:=hw
 subst e1
 cases r
 obtain⟨its,rv,ht,hz⟩:=I.tuple hq
 refine assign_Tuple_tuple (I.ok.hd hc) ht (by simp[hn,<- hl,rv.length]) d9 λh' hx=>?_
 have I1:Inv X ah σ H { s with heap:=h'}:=I.kept (t':=s.toks) λb o e=>hx b o (aaG (aas e)) e
 exact h ah _ σ H xs _ Q I1 (by simpa using rv) hw
noncomputable def Zy(to ti:TE)(t:Ph):TG:=λv σ H Q=>to σ H λo H1=>ti σ H1 λi H2=>t o i v H2 λH3=>Q σ H3
theorem wQ{o i:Expr}{to ti:TE}{t:Ph}(ho:PE X o to)(hi:PE X i ti)(hs:VD X t)
  (ha:∀v,assign (.Subscript o i pos) X.env v=(do
   let ov <- holding [v] (eval o X.env)
   let iv <- holding [v,ov] (eval i X.env)
   standAt pos
   holding [v,ov,iv] (setItem ov iv v)
   release [v,ov,iv] []):=by intro _;rfl):PG X (.Subscript o i pos) (Zy to ti t):=by
 intro ah s σ H v u Q I r h
 rw[ha]
 refine aad (aa8 (bN (ho ah s σ H _ I h) λov s1 ⟨x,H1,I1,r1,q1⟩=>?_))
 refine aad (aa8 (bN (hi ah s1 σ H1 _ I1 q1) λiv s2 ⟨y,H2,I2,r2,q2⟩=>?_))
 refine aad (wpAny_standAt (aad (aa8 (bN (hs ah s2 σ H2 x y v ov iv u _ I2 r1 r2 r q2) λ_ s3 ⟨H3,I3,q3⟩=>?_))))
 exact wpAny_release ⟨σ,H3,I3,q3⟩
noncomputable def Pj(te:TE)(g:TG):TS:=λD σ H=>te σ H λx H1=>g x σ H1 D.nx
theorem wR{tg e:Expr}{te:TE}{g:TG}(he:PE X e te)(hg:PG X tg g)(hs:swapsWithSole [tg] e pos.line X.env=pure false:=by rfl)(hw:swappedStores [tg] e X.env=pure none:=by rfl)
  (h1:(assignEach [tg] X.env).map (·.2)=[assign tg X.env]:=by rfl):PS X (.Assign [tg] e pos) (Pj te g):=by
 intro ah s σ H D I h
 refine wpAny_Assign_stores (bN (he ah s σ H _ I h) λv s1 ⟨x,H1,I1,r1,q1⟩=>?_) hs hw
 rw[h1]
 exact bN (hg ah s1 σ H1 x v _ I1 r1 q1) λ_ s2 q=>q
theorem oh{i:Nat}{x:Str}{e:Expr}{te:TE}{pos':Pos}(hN:X.N.Nodup)(hi:X.N[i]?=some x)(hx:Loc X.env.scope x)(he:PE X e te)(hs:swapsWith e (some (.Name x pos')) pos.line X.env=pure false:=by rfl)(hf:X.fn x=true\/X.env.scope.names.lookup x=some .local:=by first |exact .inl rfl |exact .inr rfl |assumption) :
  PS X (.Assign [.Name x pos'] e pos) (Pj te (yQ i)):=by
 intro ah s σ H D I h
 refine wpAny_Assign_Name (bN (he ah s σ H _ I h) λv s1 ⟨y,H1,I1,r1,q1⟩=>?_) hs
 exact iz I1 hN hi hx r1 (λs2 I2=>⟨_,H1,I2,q1⟩) hf
noncomputable def Zz(i j:Nat)(ta:TA):TS:=λD σ H=>ta σ H λvs H1=>∃v w,vs=[v,w]/\D.nx ((σ.set i (some v)).set j (some w)) H1
theorem Pn{i j:Nat}{x y:Str}{a b:Expr}{ta:TA}{px py pt:Pos}{kt k2 wU}(hc:X.calm=true)(hN:X.N.Nodup)(hi:X.N[i]?=some x)(hj:X.N[j]?=some y)(hij:i≠j)
  (hx:X.env.scope.names.lookup x=some .local) (hy:X.env.scope.names.lookup y=some .local) (ha:PA X [a,b] ta)
  (hw:swappedStores [.Tuple [.Name x px,.Name y py] kt pt] (.Tuple [a,b] k2 wU) X.env=pure (some [x,y]))
  (hs:swapsWithSole [.Tuple [.Name x px,.Name y py] kt pt] (.Tuple [a,b] k2 wU) pos.line X.env=pure false:=by rfl) :
  PS X (.Assign [.Tuple [.Name x px,.Name y py] kt pt] (.Tuple [a,b] k2 wU) pos) (Zz i j ta):=by
 intro ah s σ H D I h
 rw[exec_Assign_arm]
 refine aad (wpAny_standAt ?_)
 rw[hs]
 refine aad (aak ?_)
 rw[aau (by decide)]
 refine aad (Tuple_ (bN (ha _ ah s σ H _ I h) λus s1 ⟨vs,H1,I1,r1,q1⟩=>?_))
 obtain⟨v,w,e1,q1⟩:=q1
 subst e1
 obtain⟨u1,u2,rfl,rv,rw'⟩:∃u1 u2,us=[u1,u2]/\RelV v u1/\RelV w u2:=by
  cases r1 with
  |cons p q=>
   cases q with
   |cons p' q'=>
    cases q'
    exact⟨_,_,rfl,p,p'⟩
 refine aaS ?_ (by show 2<=sizeLine;decide)
 have I2:Inv X ah σ H1 { s1 with heap:=s1.heap.push { cls:=.type "tuple",data:=.seq [u1,u2].toArray}}:=I1.kept (t':=s1.toks) λb o e=>aae _ e
 rw[hw]
 refine aad (aak ?_)
 show wpAny (model X.prog X.w) X.A (do rule "assign.swapped-stores";let items <- unpackItems (.ref s1⁻¹) 2 none;assignInOrder [λv=>bindName X.env y v,λv=>bindName X.env x v] items.reverse;pure Flow.next) _ _ _
 refine aad (wpAny_rule (aad (unpackItems_tuple (items:=#[u1,u2]) (I.ok.hd hc) (IsTup.new s1.heap _) λh' hx'=>?_)))
 have I3:=I2.kept (h':=h') (t':=s1.toks) λb o e=>hx' b o (aaG (aas e)) e
 show wpAny _ _ (assignInOrder [λv=>bindName X.env y v,λv=>bindName X.env x v] [u2,u1] >>= λ_=>pure Flow.next) _ _ _
 refine aad (assignInOrder_cons (wpAny_bindName (iz I3 hN hj (.inl hy) rw' (λs2 I4=>?_) (.inr hy))))
 refine assignInOrder_cons (wpAny_bindName (iz I4 hN hi (.inl hx) rv (λs3 I5=>assignInOrder_nil (aak ?_)) (.inr hx)))
 rw[List.set_comm _ _ (aaX hij)]at I5
 exact⟨_,H1,I5,q1⟩
end
section
variable{X:Cx}{pos:Pos}
noncomputable def Pp(c:TT)(tb:TS):TS:=λD σ H=>∃W:Nat->St->Hp->Prop,(∃m,W m σ H)/\∀m σ H,W m σ H->
 c σ H λb H1=>if b=true then ∃N:St->Hp->Prop,(∀σ' H',N σ' H'->∃m',m'<m/\W m' σ' H')/\tb { D with nx:=N,ct:=N,bk:=D.nx} σ H1 else D.nx σ H1
theorem DS{c:Expr}{body:List Stmt}{tc:TT}{tb:TS}(hp:PassesOwn (model X.prog X.w) X.A X.env X.xe)(hc:PT X c tc)(hb:su X body tb):PS X (.While c body [] pos) (Pp tc tb):=by
 intro ah s σ H D I h
 obtain⟨W,⟨m0,w0⟩,turn⟩:=h
 refine wpAny_While (codeAny_whileLoop (λn s'=>∃σ' H',Inv X ah σ' H' s'/\W n σ' H') ?_ m0 ⟨σ,H,I,w0⟩)
 rintro n s1 ⟨σ1,H1,I1,w1⟩
 refine abI hp (bN (hc ah s1 σ1 H1 _ I1 (turn n σ1 H1 w1)) λb s2 ⟨H2,I2,q2⟩=>?_)
 cases b with
 |true=>
  obtain⟨N,hN,q2⟩:=q2
  rw[aav rfl]
  refine abI hp (bN (hb ah s2 σ1 H2 _ I2 q2) λf s3 q3=>?_)
  cases f with
  |next=>
   obtain⟨σ3,H3,I3,n3⟩:=q3
   obtain⟨m',hm,w3⟩:=hN σ3 H3 n3
   exact⟨m',hm,σ3,H3,I3,w3⟩
  |cont=>
   obtain⟨σ3,H3,I3,n3⟩:=q3
   obtain⟨m',hm,w3⟩:=hN σ3 H3 n3
   exact⟨m',hm,σ3,H3,I3,w3⟩
  |brk=>exact q3
  |ret v=>exact q3
 |false=>
  rw[aau aaF]
  exact wpAny_execs_nil ⟨σ1,H2,I2,q2⟩
end
structure It where
 go:Nat->Hp->Prop
 Yt:Nat->Hp->V->Hp->Prop
 stop:Nat->Hp->Prop
def kY(X:Cx)(ah:List (Addr×Obj))(H:Hp)(b:Addr):Prop:=
 H b=none/\b≠X.env.locals/\b∉X.fs/\(b∈X.ex\/X.s₀⁻¹<=b)/\(∀x c,X.env.cells.lookup x=some c->c≠b)/\∀p∈X.pn++ah,p.1≠b
theorem Inv.Ae{X:Cx}{ah:List (Addr×Obj)}{σ:St}{H H':Hp}{s:Shared}{b:Addr}(I:Inv X ah σ H s)(hb:s⁻¹<=b)(hn:H' b=none):kY X ah H' b:=by
 refine⟨hn,abK (aan I.lt hb),I.Zm hb,.inr (aaI I.sz hb),λx c e z=>?_,λp hp z=>?_⟩
 .
  obtain⟨v,q⟩:=I.cell x c e
  exact absurd (aan q.lt (by rw[z];exact hb)) (aa7 _)
 .
  exact absurd (aan (aas (I.pin p hp).1) (by rw[z];exact hb)) (aa7 _)
structure Turn(P:Program)(w:World)(K:Frag)(tg:Expr)(J:It)(fp:List Addr)(it:Addr)(tn:Nat->Heap->Prop):Prop where
 mem:it∈fp
 obj:∀i h,tn i h->∀b∈fp,∃o,h.get? b=some o/\∀v,o.data≠.cell v
 keep:∀i h h',tn i h->(∀b∈fp,∀o,h.get? b=some o->h'.get? b=some o)->tn i h'
 item:∀(X:Cx),X.prog=P->X.w=w->X.K=K->X.calm=true->∀(i:Nat) (ah:List (Addr×Obj)) (s:Shared) (σ:St) (H:Hp) (E:Value->Shared->Prop),Inv X ah σ H s->(∀b∈fp,kY X ah H b)->tn i s.heap->J.go i H->
  wpAny (model P w) X.A (pyNext (.ref it)) (λr s1=>∃u,r=some u/\
   wpAny (model P w) X.A (letOwnedTupleGo tg (.ref it) u) (λ_ s2=>∃x H',Inv X ah σ H' s2/\RelV x u/\J.Yt i H x H'/\tn (i+1) s2.heap/\∀b∈fp,H' b=none) E s1) E s
 done:∀(X:Cx),X.prog=P->X.w=w->X.K=K->X.calm=true->∀(i:Nat) (ah:List (Addr×Obj)) (s:Shared) (σ:St) (H:Hp) (E:Value->Shared->Prop),Inv X ah σ H s->(∀b∈fp,kY X ah H b)->tn i s.heap->J.stop i H->
  wpAny (model P w) X.A (pyNext (.ref it)) (λr s1=>r=none/\Inv X ah σ H s1) E s
 self:∀(A:Around) (i:Nat) (s:Shared) (Q:Value->Shared->Prop) (E:Value->Shared->Prop),tn i s.heap->Q (.ref it) s->wpAny (model P w) A (pyIter (.ref it)) Q E s
abbrev TI:=St->Hp->(It->Hp->Prop)->Prop
def PIE(X:Cx)(ah:List (Addr×Obj))(σ:St)(tg:Expr)(R:It->Hp->Prop)(itv:Value)(s2:Shared):Prop:=
 ∃(it:Addr) (fp:List Addr) (tn:Nat->Heap->Prop) (J:It) (H':Hp),itv=.ref it/\Inv X ah σ H' s2/\Turn X.prog X.w X.K tg J fp it tn/\tn 0 s2.heap/\(∀b∈fp,kY X ah H' b)/\R J H'
def PI(X:Cx)(tg iter:Expr)(wi:TI):Prop:=
 ∀(ah:List (Addr×Obj)) (s:Shared) (σ:St) (H:Hp) (R:It->Hp->Prop),Inv X ah σ H s->wi σ H R->
  wpAny (model X.prog X.w) X.A (eval iter X.env) (λv s1=>wpAny (model X.prog X.w) X.A (pyIter v) (PIE X ah σ tg R) X.xe s1) X.xe s
theorem yS(ho:s.heap.get? it=some o)(hc:o.cls=.type n)(hd:o.data=.fields vs)
  (hn:["enumerate", "zip", "dict_itemiterator", "dict_reverseitemiterator", "odict_iterator", "itertools.zip_longest", "itertools.pairwise"].contains n=false) (hQ:Q () s):wpAny M A (letOwnedTupleGo tg (.ref it) u) Q E s:=by
 unfold letOwnedTupleGo
 cases tg <;> first
  |exact aak hQ
  | (cases u <;> first
    |exact aak hQ
    | (refine aad (wpAny_load ho ?_)
       rw[hc,hd]
       show wpAny M A (if (["enumerate", "zip", "dict_itemiterator", "dict_reverseitemiterator", "odict_iterator", "itertools.zip_longest", "itertools.pairwise"].contains n&&vs[0]?==some (rawInt _))=true then _ else _) Q E s
       rw[aau (by intro h;rw[hn,Bool.false_and]at h;cases h)]
       exact aak hQ))
noncomputable def Itl(K:Frag)(a:Addr):It:=
 ⟨λi H=>∃xs x,cK K H a xs/\xs[i]?=some x,λi H x H'=>H'=H/\∀xs,cK K H a xs->xs[i]?=some x,λi H=>∃xs,cK K H a xs/\xs.length<=i⟩
noncomputable def Itt(K:Frag)(a:Addr):It:=
 ⟨λi H=>∃xs x,iA K H a xs/\xs[i]?=some x,λi H x H'=>H'=H/\∀xs,iA K H a xs->xs[i]?=some x,λi H=>∃xs,iA K H a xs/\xs.length<=i⟩
noncomputable def Pq(lo:Int)(n:Nat):It:=⟨λi _=>i<n,λi H x H'=>H'=H/\x=.int (lo+i),λi _=>n<=i⟩
theorem Af{P:Program}{w:World}{K:Frag}{tg:Expr}(a it:Addr):Turn P w K tg (Itl K a) [it] it (λi h=>h.IsListIter it a i) where
 mem:=by simp
 obj:=λi h st b hb=>by
  have e:b=it:=by simpa using hb
  subst e
  obtain⟨o,e,c,d⟩:=st
  exact⟨o,e,λv z=>by rw[d]at z;cases z⟩
 keep:=λi h h' st k=>st.at λo e=>k it (by simp) o e
 item:=by
  intro X hP hw hK hc i ah s σ H E I hf st hg
  subst hP hw hK
  obtain⟨xs,x,hq,hx⟩:=hg
  obtain⟨its,rv,p,hz⟩:=I.list hq
  obtain⟨u,hu,ru⟩:=rv.get hx
  obtain⟨f0,f1,f2,f3,f4,f5⟩:=hf it (by simp)
  refine wpAny_pyNext_list_item st p.isList (x:=u) (by simpa using hu) λh' st' sb=>?_
  have I1:Inv X ah σ H { s with heap:=h'}:=I.turned (t':=s.toks) (λb o hb e=>(sb.2 b hb).trans e) f0 f1 f3 f4 f5
  obtain⟨o,e,c,d⟩:=id st'
  exact⟨u,rfl,yS (s:={ s with heap:=h'}) e c d (by decide) ⟨x,H,I1,ru,⟨rfl,λys hy=>by rw[I.uG hy hq];exact hx⟩,st',λb hb=>(hf b hb).1⟩⟩
 done:=by
  intro X hP hw hK hc i ah s σ H E I hf st hg
  subst hP hw hK
  obtain⟨xs,hq,hx⟩:=hg
  obtain⟨its,rv,p,hz⟩:=I.list hq
  obtain⟨f0,f1,f2,f3,f4,f5⟩:=hf it (by simp)
  have hl:=rv.length
  exact wpAny_pyNext_list_end (I.ok.hd hc) st p.isList (by simp;lia) λh' eb=>⟨rfl,I.turned (t':=s.toks) (λb o hb e=>eb b o hb e) f0 f1 f3 f4 f5⟩
 self:=λ_ _ _ _ _ st h=>wpAny_pyIter_listiter st h
theorem wV{P:Program}{w:World}{K:Frag}{tg:Expr}(a it:Addr):Turn P w K tg (Itt K a) [it] it (λi h=>h.IsTupleIter it a i) where
 mem:=by simp
 obj:=λi h st b hb=>by
  have e:b=it:=by simpa using hb
  subst e
  obtain⟨o,e,c,d⟩:=st
  exact⟨o,e,λv z=>by rw[d]at z;cases z⟩
 keep:=λi h h' st k=>st.at λo e=>k it (by simp) o e
 item:=by
  intro X hP hw hK hc i ah s σ H E I hf st hg
  subst hP hw hK
  obtain⟨xs,x,hq,hx⟩:=hg
  obtain⟨its,rv,p,hz⟩:=I.tuple hq
  obtain⟨u,hu,ru⟩:=rv.get hx
  obtain⟨f0,f1,f2,f3,f4,f5⟩:=hf it (by simp)
  refine wpAny_pyNext_tuple_item st (show s.heap.IsTuple a its.toArray from p) (x:=u) (by simpa using hu) λh' st' sb=>?_
  have I1:Inv X ah σ H { s with heap:=h'}:=I.turned (t':=s.toks) (λb o hb e=>(sb.2 b hb).trans e) f0 f1 f3 f4 f5
  obtain⟨o,e,c,d⟩:=id st'
  exact⟨u,rfl,yS (s:={ s with heap:=h'}) e c d (by decide) ⟨x,H,I1,ru,⟨rfl,λys hy=>by rw[I.qR hy hq];exact hx⟩,st',λb hb=>(hf b hb).1⟩⟩
 done:=by
  intro X hP hw hK hc i ah s σ H E I hf st hg
  subst hP hw hK
  obtain⟨xs,hq,hx⟩:=hg
  obtain⟨its,rv,p,hz⟩:=I.tuple hq
  obtain⟨f0,f1,f2,f3,f4,f5⟩:=hf it (by simp)
  have hl:=rv.length
  exact wpAny_pyNext_tuple_end (I.ok.hd hc) st (show s.heap.IsTuple a its.toArray from p) (by simp;lia) λh' eb=>⟨rfl,I.turned (t':=s.toks) (λb o hb e=>eb b o hb e) f0 f1 f3 f4 f5⟩
 self:=λ_ _ _ _ _ st h=>wpAny_pyIter_tupleiter st h
theorem wW{P:Program}{w:World}{K:Frag}{tg:Expr}(it:Addr)(lo:Int)(n:Nat):Turn P w K tg (Pq lo n) [it] it (λi h=>IsRangeIter h it (lo+(i:Nat) * 1) ((n:Int) - (i:Nat)) 1) where
 mem:=by simp
 obj:=λi h st b hb=>by
  have e:b=it:=by simpa using hb
  subst e
  exact⟨_,st,λv z=>by
   have z':Data.fields _=Data.cell v:=z
   cases z'⟩
 keep:=λi h h' st k=>k it (by simp) _ st
 item:=by
  intro X hP hw hK hc i ah s σ H E I hf st hg
  subst hP hw hK
  obtain⟨f0,f1,f2,f3,f4,f5⟩:=hf it (by simp)
  have W:=Walks.range (prog:=X.prog) (w:=X.w) (I.ok.hd hc) it lo 1 n
  refine W.item i s _ _ hg st λv h' tk hv st' kk=>?_
  obtain⟨t,rfl⟩:=hv
  have I1:Inv X ah σ H { s with heap:=h',toks:=tk}:=I.turned (λb o hb e=>kk b o (by simpa using hb) e) f0 f1 f3 f4 f5
  refine⟨_,rfl,yS (s:={ s with heap:=h',toks:=tk}) (n:= "range_iterator") st' rfl rfl (by decide) ⟨.int (lo+i),H,I1,⟨t,?_⟩,⟨rfl,rfl⟩,st',λb hb=>(hf b hb).1⟩⟩
  rw[Int.mul_one]
 done:=by
  intro X hP hw hK hc i ah s σ H E I hf st hg
  subst hP hw hK
  obtain⟨f0,f1,f2,f3,f4,f5⟩:=hf it (by simp)
  exact wpAny_pyNext_range_end (I.ok.hd hc) st (by have:n<=i:=hg;lia) λh' eb=>⟨rfl,I.turned (t':=s.toks) (λb o hb e=>eb b o hb e) f0 f1 f3 f4 f5⟩
 self:=λ_ _ _ _ _ st h=>wpAny_pyIter_rangeiter st h
section
variable{X:Cx}{tg:Expr}
noncomputable def NP(K:Frag)(tl:TE):TI:=λσ H R=>tl σ H λx H1=>∃a,x=.ref a/\(∃xs,cK K H1 a xs)/\R (Itl K a) H1
noncomputable def ZC(K:Frag)(tl:TE):TI:=λσ H R=>tl σ H λx H1=>∃a,x=.ref a/\(∃xs,iA K H1 a xs)/\R (Itt K a) H1
theorem sF{l:Expr}{tl:TE}(hl:PE X l tl):PI X tg l (NP X.K tl):=by
 intro ah s σ H R I h
 refine bN (hl ah s σ H _ I h) λv s1 ⟨x,H1,I1,r1,q1⟩=>?_
 obtain⟨a,e,⟨xs,hq⟩,q⟩:=q1
 subst e
 cases r1
 obtain⟨its,rv,p,hz⟩:=I1.list hq
 refine wpAny_pyIter_list p.isList ?_
 refine⟨s1⁻¹,[s1⁻¹],_,_,H1,rfl,I1.kept (t':=s1.toks) λb o e=>aae _ e,Af a _,⟨_,aaq _ rfl,rfl,rfl⟩,λb hb=>?_,q⟩
 have e:b=s1⁻¹:=by simpa using hb
 subst e
 exact I1.Ae (aal _) (I1.hok.fresh (aal _))
theorem Pu{l:Expr}{tl:TE}(hl:PE X l tl):PI X tg l (ZC X.K tl):=by
 intro ah s σ H R I h
 refine bN (hl ah s σ H _ I h) λv s1 ⟨x,H1,I1,r1,q1⟩=>?_
 obtain⟨a,e,⟨xs,hq⟩,q⟩:=q1
 subst e
 cases r1
 obtain⟨its,rv,p,hz⟩:=I1.tuple hq
 refine wpAny_pyIter_tuple (show s1.heap.IsTuple a its.toArray from p) ?_
 refine⟨s1⁻¹,[s1⁻¹],_,_,H1,rfl,I1.kept (t':=s1.toks) λb o e=>aae _ e,wV a _,⟨_,aaq _ rfl,rfl,rfl⟩,λb hb=>?_,q⟩
 have e:b=s1⁻¹:=by simpa using hb
 subst e
 exact I1.Ae (aal _) (I1.hok.fresh (aal _))
theorem uH{ah:List (Addr×Obj)}{σ:St}{H:Hp}{s:Shared}{R:It->Hp->Prop}{E:Value->Shared->Prop}{lo hi:Int}{t u v:Tok}{tk:Nat}(I:Inv X ah σ H s)(h1 : -(2 ^ 62)<=lo)(h2:lo<2 ^ 62)(h3 : -(2 ^ 62)<=hi)(h4:hi<2 ^ 62)
  (q:R (Pq lo (hi - lo).toNat) H):wpAny (model X.prog X.w) X.A (pyIter (.ref s⁻¹)) (PIE X ah σ tg R) E { s with heap:=s.heap.push { cls:=.type "range",data:=.fields #[.int lo t,.int hi u,.int 1 v]},toks:=tk}:=by
 refine wpAny_pyIter_range (IsRange.new ..) (small_one h1 h2 h3 h4) ?_
 have I1:Inv X ah σ H { s with heap:=s.heap.push { cls:=.type "range",data:=.fields #[.int lo t,.int hi u,.int 1 v]},toks:=tk}:=I.kept λb o e=>aae _ e
 refine⟨(s.heap.push { cls:=.type "range",data:=.fields #[.int lo t,.int hi u,.int 1 v]}).objs.size,[(s.heap.push { cls:=.type "range",data:=.fields #[.int lo t,.int hi u,.int 1 v]}).objs.size],_,_,H,rfl,
  I1.kept (t':=tk) λb o e=>aae _ e,wW _ lo (hi - lo).toNat,?_,λb hb=>?_,q⟩
 .
  have e1:lo+((0:Nat):Int) * 1=lo:=by simp
  have e2:(((hi - lo).toNat:Nat):Int) - ((0:Nat):Int)=Builtin.Range.rangeSize lo hi 1:=by rw[rangeSize_one];split <;> lia
  show IsRangeIter _ _ (lo+((0:Nat):Int) * 1) ((((hi - lo).toNat:Nat):Int) - ((0:Nat):Int)) 1
  rw[e1,e2]
  exact aaq _ rfl
 .
  have e:b=(s.heap.push { cls:=.type "range",data:=.fields #[.int lo t,.int hi u,.int 1 v]}).objs.size:=by simpa using hb
  subst e
  exact I1.Ae (aal _) (I1.hok.fresh (aal _))
noncomputable def VG(ta:TA):TI:=λσ H R=>ta σ H λvs H1=>∃j:Int,vs=[.int j]/\-(2 ^ 62)<=j/\j<2 ^ 62/\R (Pq 0 j.toNat) H1
noncomputable def VH(ta:TA):TI:=λσ H R=>ta σ H λvs H1=>∃i j:Int,vs=[.int i,.int j]/\(-(2 ^ 62)<=i/\i<2 ^ 62/\-(2 ^ 62)<=j/\j<2 ^ 62)/\R (Pq i (j - i).toNat) H1
theorem Ag{a:Expr}{ta:TA}{p pos:Pos}(hg:Gl X "range")(hm:X.mg "range" = none)(ha:PA X [a] ta)(hs:starEach [a] X.env=[(false,eval a X.env)]:=by rfl):PI X tg (.Call (.Name "range" p) [a] [] pos) (VG ta):=by
 intro ah s σ H R I h
 refine Call_ (gH I hg hm boot_range (aaU (bN (ha pos ah s σ H _ I h) λus s1 ⟨vs,H1,I1,r1,q1⟩=>?_) hs rfl))
 obtain⟨j,e,q1,q2,q⟩:=q1
 subst e
 cases r1 with
 |cons r rr=>
  cases rr
  obtain⟨t,rfl⟩:=r
  exact call_range_1 (uH I1 (by lia) (by lia) q1 q2 (by simpa using q))
theorem Ah{a b:Expr}{ta:TA}{p pos:Pos}(hg:Gl X "range")(hm:X.mg "range" = none)(ha:PA X [a,b] ta)(hs:starEach [a,b] X.env=[(false,eval a X.env),(false,eval b X.env)]:=by rfl)(hs2:starEach [b] X.env=[(false,eval b X.env)]:=by rfl) :
  PI X tg (.Call (.Name "range" p) [a,b] [] pos) (VH ta):=by
 intro ah s σ H R I h
 refine Call_ (gH I hg hm boot_range (aaU (bN (ha pos ah s σ H _ I h) λus s1 ⟨vs,H1,I1,r1,q1⟩=>?_) (by rw[hs,hs2]) (by rw[hs2];rfl)))
 obtain⟨i,j,e,⟨q1,q2,q3,q4⟩,q⟩:=q1
 subst e
 cases r1 with
 |cons r rr=>
  cases rr with
  |cons r' rr=>
   cases rr
   obtain⟨t,rfl⟩:=r
   obtain⟨t',rfl⟩:=r'
   exact call_range_2 (uH I1 q1 q2 q3 q4 q)
noncomputable def ZD(wi:TI)(g:TG)(tb:TS):TS:=λD σ H=>wi σ H λJ H1=>∃W:Nat->Nat->St->Hp->Prop,(∃m,W 0 m σ H1)/\∀i m σ H,W i m σ H->
 (J.stop i H/\D.nx σ H)\/(J.go i H/\∃N:St->Hp->Prop,(∀σ' H',N σ' H'->∃m',m'<m/\W (i+1) m' σ' H')/\∀x H',J.Yt i H x H'->g x σ H' λσ2 H2=>tb { D with nx:=N,ct:=N,bk:=D.nx} σ2 H2)
noncomputable def oq(fp:List Addr)(h:Heap):List (Addr×Obj):=fp.filterMap λb=>(h.get? b).map λo=>(b,o)
theorem gI{fp:List Addr}{h:Heap}{b:Addr}{o:Obj}(hb:b∈fp)(e:h.get? b=some o):(b,o)∈oq fp h:=List.mem_filterMap.mpr ⟨b,hb,by rw[e];rfl⟩
theorem Ai(hp:p∈oq fp h):p.1∈fp/\h.get? p.1=some p.2:=by
 obtain⟨b,hb,e⟩:=List.mem_filterMap.mp hp
 cases q:h.get? b with
 |none=>rw[q]at e;cases e
 |some o=>
  rw[q]at e
  have e':(b,o)=p:=aa1 e
  subst e'
  exact⟨hb,q⟩
theorem Inv.pinned{ah:List (Addr×Obj)}{σ:St}{H:Hp}{s:Shared}{fp:List Addr}(I:Inv X ah σ H s)(hf:∀b∈fp,kY X ah H b)(ho:∀b∈fp,∃o,s.heap.get? b=some o/\∀v,o.data≠.cell v):Inv X (ah++oq fp s.heap) σ H s:=
 I.yO λp hp=>(abH.mp hp).elim (λz=>I.pin p (aaM _ z)) λz=>by
  obtain⟨hb,e⟩:=Ai z
  obtain⟨f0,f1,f2,_⟩:=hf p.1 hb
  obtain⟨o,e',d⟩:=ho p.1 hb
  rw[e]at e';cases e'
  exact⟨e,f0,f1,f2,d⟩
theorem Inv.jY{ah pl:List (Addr×Obj)}{σ:St}{H:Hp}{s:Shared}(I:Inv X (ah++pl) σ H s):Inv X ah σ H s:=I.yO λp hp=>I.pin p (aaM _ (abZ _ hp))
theorem Pw{iter:Expr}{body:List Stmt}{wi:TI}{g:TG}{tb:TS}{pos:Pos}(hp:PassesOwn (model X.prog X.w) X.A X.env X.xe)(hc:X.calm=true)(hi:PI X tg iter wi)(hg:PG X tg g)(hb:su X body tb)
  (hs:∀x,foldedSetIterable iter X.env x=pure x:=by intro _;rfl):PS X (.For tg iter body [] pos) (ZD wi g tb):=by
 intro ah s σ H D I h
 refine wpAny_For (bN (hi ah s σ H _ I h) λv s1 h1=>bN h1 λitv s2 h2=>?_) hs
 obtain⟨it,fp,tn,J,H2,e,I2,T,aU,f2,W,⟨m0,w0⟩,turn⟩:=h2
 subst e

 have stat:∀{H':Hp},(∀b∈fp,H' b=none)->∀b∈fp,kY X ah H' b:=λhn b hb=>⟨hn b hb,(f2 b hb).2⟩
 refine codeAny_forLoop_any (λn s'=>∃i σ' H',Inv X ah σ' H' s'/\tn i s'.heap/\(∀b∈fp,H' b=none)/\W i n σ' H') ?_ m0 ⟨0,σ,H2,I2,aU,λb hb=>(f2 b hb).1,w0⟩
 rintro n s3 ⟨i,σ3,H3,I3,gF,VJ,w3⟩
 rcases turn i n σ3 H3 w3 with ⟨stop,qn⟩ |⟨go,N,hN,step⟩
 .
  refine abI hp (bN (T.done X rfl rfl rfl hc i ah s3 σ3 H3 X.xe I3 (stat VJ) gF stop) λr s4 ⟨hr,I4⟩=>?_)
  subst hr
  exact wpAny_execs_nil ⟨σ3,H3,I4,qn⟩
 .
  refine abI hp (bN (T.item X rfl rfl rfl hc i ah s3 σ3 H3 X.xe I3 (stat VJ) gF go) λr s4 ⟨u,hr,h4⟩=>?_)
  subst hr
  refine abI hp (bN h4 λ_ s5 ⟨x,H5,I5,r5,y5,uI,ZF⟩=>?_)
  have ZG:=I5.pinned (stat ZF) (T.obj _ _ uI)
  refine abI hp (bN (hg _ s5 σ3 H5 x u _ ZG r5 (step x H5 y5)) λ_ s6 ⟨σ6,H6,I6,q6⟩=>?_)
  refine abI hp (bN (hb _ s6 σ6 H6 _ I6 q6) λf s7 q7=>?_)
  have again:∀{σ7:St}{H7:Hp},Inv X (ah++oq fp s5.heap) σ7 H7 s7->N σ7 H7->∃m,m<n/\∃i σ' H',Inv X ah σ' H' s7/\tn i s7.heap/\(∀b∈fp,H' b=none)/\W i m σ' H':=λ{σ7 H7} I7 n7=>by
   obtain⟨m',hm,w7⟩:=hN σ7 H7 n7
   refine⟨m',hm,i+1,σ7,H7,I7.jY,T.keep _ _ _ uI λb hb o e=>(I7.pin (b,o) (aaM _ (aaM _ (gI hb e)))).1,λb hb=>?_,w7⟩
   obtain⟨o,e,d⟩:=T.obj _ _ uI b hb
   exact (I7.pin (b,o) (aaM _ (aaM _ (gI hb e)))).2.1
  cases f with
  |next=>obtain⟨σ7,H7,I7,n7⟩:=q7;exact again I7 n7
  |cont=>obtain⟨σ7,H7,I7,n7⟩:=q7;exact again I7 n7
  |brk=>obtain⟨σ7,H7,I7,q7⟩:=q7;exact⟨σ7,H7,I7.jY,q7⟩
  |ret v=>obtain⟨x7,σ7,H7,I7,r7,q7⟩:=q7;exact⟨x7,σ7,H7,I7.jY,r7,q7⟩
end
abbrev R2:=V->V->Hp->VK->Prop
noncomputable def ni(X:Cx)(f:Value->Value->Sem Value)(r:R2):Prop:=
 ∀(ah:List (Addr×Obj)) (s:Shared) (σ:St) (H:Hp) (x y:V) (v u:Value) (Q:VK),Inv X ah σ H s->RelV x v->RelV y u->r x y H Q->
  wpAny (model X.prog X.w) X.A (f v u) (EP X ah σ Q) X.xe s
noncomputable def Yu(X:Cx)(f:Value->Sem Value)(r:V->Hp->VK->Prop):Prop:=
 ∀(ah:List (Addr×Obj)) (s:Shared) (σ:St) (H:Hp) (x:V) (v:Value) (Q:VK),Inv X ah σ H s->RelV x v->r x H Q->
  wpAny (model X.prog X.w) X.A (f v) (EP X ah σ Q) X.xe s
noncomputable def fF(X:Cx)(f:Value)(r:List V->Hp->VK->Prop):Prop:=
 ∀(ah:List (Addr×Obj)) (s:Shared) (σ:St) (H:Hp) (xs:List V) (us:List Value) (Q:VK),Inv X ah σ H s->Vals xs us->r xs H Q->
  wpAny (model X.prog X.w) X.A (call f us) (EP X ah σ Q) X.xe s
noncomputable def ZJ(X:Cx)(r:V->Hp->(Bool->Hp->Prop)->Prop):Prop:=
 ∀(ah:List (Addr×Obj)) (s:Shared) (σ:St) (H:Hp) (x:V) (v:Value) (Q:Bool->Hp->Prop),Inv X ah σ H s->RelV x v->r x H Q->
  wpAny (model X.prog X.w) X.A (truthy v) (TP X ah σ Q) X.xe s
noncomputable def Yv(r:R2)(ta tb:TE):TE:=λσ H Q=>ta σ H λx H1=>tb σ H1 λy H2=>r x y H2 Q
noncomputable def tUn(r:V->Hp->VK->Prop)(ta:TE):TE:=λσ H Q=>ta σ H λx H1=>r x H1 Q
noncomputable def rI(C:Int->Int->Prop)(g:Int->Int->V):R2:=λx y H Q=>∃i j,x=.int i/\y=.int j/\C i j/\Q (g i j) H
noncomputable def Jc(g:Int->Int->V):R2:=λx y H Q=>∃i j,x=.int i/\y=.int j/\Q (g i j) H
noncomputable def rU(g:Int->V):V->Hp->VK->Prop:=λx H Q=>∃i,x=.int i/\Q (g i) H
section
variable{X:Cx}{a b c:Expr}{ta tb tc:TE}{pos:Pos}
theorem Px(ha:PE X a ta)(hb:PE X b tb){ah:List (Addr×Obj)}{s:Shared}{σ:St}{H:Hp}{R:V->V->Hp->Prop}(I:Inv X ah σ H s)
  (h:ta σ H λx H1=>tb σ H1 λy H2=>R x y H2) {Q:Value->Shared->Prop}{f:Value->Value->Sem Value}
  (hf:∀v u s2 x y H2,Inv X ah σ H2 s2->RelV x v->RelV y u->R x y H2->wpAny (model X.prog X.w) X.A (f v u) Q X.xe s2) :
  wpAny (model X.prog X.w) X.A (eval a X.env) (λv s₁=>wpAny (model X.prog X.w) X.A (eval b X.env) (λu s₂=>wpAny (model X.prog X.w) X.A (f v u) Q X.xe s₂) X.xe s₁) X.xe s:=by
 refine bN (ha ah s σ H _ I h) λv s1 ⟨x,H1,I1,r1,q1⟩=>?_
 refine bN (hb ah s1 σ H1 _ I1 q1) λu s2 ⟨y,H2,I2,r2,q2⟩=>?_
 exact hf v u s2 x y H2 I2 r1 r2 q2
theorem VL{op:Operator}{r:R2}(ho:ni X (binaryOp op) r)(ha:PE X a ta)(hb:PE X b tb):PE X (.BinOp a op b pos) (Yv r ta tb):=by
 intro ah s σ H Q I h
 exact wpAny_BinOp (Px ha hb I h λv u s2 x y H2 I2 rx ry q=>ho ah s2 σ H2 x y v u Q I2 rx ry q)
theorem NQ{op:UnaryOp}{r:V->Hp->VK->Prop}(ho:Yu X (unaryOp op) r)(ha:PE X a ta):PE X (.UnaryOp op a pos) (tUn r ta):=by
 intro ah s σ H Q I h
 exact UnaryOp_ (bN (ha ah s σ H _ I h) λv s1 ⟨x,H1,I1,r1,q1⟩=>ho ah s1 σ H1 x v Q I1 r1 q1)
theorem Yw{f:Value->Value->Sem Value}{C:Int->Int->Prop}{g:Int->Int->Int}
  (rule:∀(i j:Int) (t u:Tok) (s:Shared) (Q:Value->Shared->Prop) (E:Value->Shared->Prop),C i j->Q (.int (g i j) s.toks) { s with toks:=s.toks+1}->wpAny (model X.prog X.w) X.A (f (.int i t) (.int j u)) Q E s) :
  ni X f (rI C λi j=>.int (g i j)):=by
 intro ah s σ H x y v u Q I rx ry h
 obtain⟨i,j,rfl,rfl,hc,q⟩:=h
 obtain⟨t,rfl⟩:=rx
 obtain⟨t',rfl⟩:=ry
 exact rule i j t t' s _ _ hc ⟨.int (g i j),H,I.tok _,⟨_,rfl⟩,q⟩
theorem VM{f:Value->Value->Sem Value}{g:Int->Int->Int}
  (rule:∀(i j:Int) (t u:Tok) (s:Shared) (Q:Value->Shared->Prop) (E:Value->Shared->Prop),Q (.int (g i j) s.toks) { s with toks:=s.toks+1}->wpAny (model X.prog X.w) X.A (f (.int i t) (.int j u)) Q E s) :
  ni X f (Jc λi j=>.int (g i j)):=by
 intro ah s σ H x y v u Q I rx ry h
 obtain⟨i,j,rfl,rfl,q⟩:=h
 obtain⟨t,rfl⟩:=rx
 obtain⟨t',rfl⟩:=ry
 exact rule i j t t' s _ _ ⟨.int (g i j),H,I.tok _,⟨_,rfl⟩,q⟩
theorem Ju{f:Value->Value->Sem Value}{g:Int->Int->Bool}
  (rule:∀(i j:Int) (t u:Tok) (s:Shared) (Q:Value->Shared->Prop) (E:Value->Shared->Prop),Q (.bool (g i j)) s->wpAny (model X.prog X.w) X.A (f (.int i t) (.int j u)) Q E s) :
  ni X f (Jc λi j=>.bl (g i j)):=by
 intro ah s σ H x y v u Q I rx ry h
 obtain⟨i,j,rfl,rfl,q⟩:=h
 obtain⟨t,rfl⟩:=rx
 obtain⟨t',rfl⟩:=ry
 exact rule i j t t' s _ _ ⟨.bl (g i j),H,I,rfl,q⟩
def ZK(i j:Int):Prop:=0<j/\j<1073741824
def ZL(i j:Int):Prop:=0<=j/\j<=1000000/\i.natAbs<2 ^ 64
def Py(i j:Int):Prop:=(-(2 ^ 64)<i/\i<2 ^ 64)\/(-(2 ^ 64)<j/\j<2 ^ 64)
theorem Py.ok{i j:Int}(h:Py i j):IntMulOk i j:=by
 rcases h with ⟨h1,h2⟩ |⟨h1,h2⟩
 .
  exact .of_left (intBits_le_64 h1 h2)
 .
  exact .of_right (intBits_le_64 h1 h2)
theorem Pz:ni X (binaryOp .Add) (Jc λi j=>.int (i+j)):=VM λ_ _ _ _ _ _ _ q=>add_int q
theorem PB:ni X (binaryOp .Sub) (Jc λi j=>.int (i - j)):=VM λ_ _ _ _ _ _ _ q=>sub_int q
theorem PJ:ni X (binaryOp .Mult) (rI Py λi j=>.int (i * j)):=Yw λ_ _ _ _ _ _ _ hc q=>mul_int q hc.ok
theorem Jv:ni X (binaryOp .FloorDiv) (rI ZK λi j=>.int (i / j)):=Yw λi j _ _ _ _ _ hc q=>by
 have h1:(0:Int)<j:=hc.1
 have h2:j<1073741824:=hc.2
 exact floordiv_int (by lia) (by rw[Int.fdiv_eq_ediv_of_nonneg i (by lia)];exact q) (.inl (PyProof.noPylong_small (by lia)))
theorem PK:ni X (binaryOp .Mod) (rI (λ_ j=>0<j) λi j=>.int (i % j)):=Yw λi j _ _ _ _ _ hc q=>by
 have h1:(0:Int)<j:=hc
 exact mod_int' (by lia) (by rw[Int.fmod_eq_emod_of_nonneg i (by lia)];exact q)
theorem sG:ni X (binaryOp .Pow) (rI ZL λi j=>.int (i ^ j.toNat)):=Yw λ_ _ _ _ _ _ _ hc q=>pow_int_small hc.1 hc.2.1 hc.2.2 q
theorem unI{f:Value->Sem Value}{g:Int->Int}
  (rule:∀(i:Int) (t:Tok) (s:Shared) (Q:Value->Shared->Prop) (E:Value->Shared->Prop),Q (.int (g i) s.toks) { s with toks:=s.toks+1}->wpAny (model X.prog X.w) X.A (f (.int i t)) Q E s) :
  Yu X f (rU λi=>.int (g i)):=by
 intro ah s σ H x v Q I rx h
 obtain⟨i,rfl,q⟩:=h
 obtain⟨t,rfl⟩:=rx
 exact rule i t s _ _ ⟨.int (g i),H,I.tok _,⟨_,rfl⟩,q⟩
theorem DT:Yu X (unaryOp .USub) (rU λi=>.int (-i)):=unI λ_ _ _ _ _ q=>neg_int q
end
section
variable{X:Cx}{a b c:Expr}{ta tb tc:TE}{pos:Pos}
theorem VN:ni X (compareOp .Lt) (Jc λi j=>.bl (decide (i<j))):=Ju λ_ _ _ _ _ _ _ q=>lt_int q
theorem VP:ni X (compareOp .LtE) (Jc λi j=>.bl (decide (i<=j))):=Ju λ_ _ _ _ _ _ _ q=>le_int q
theorem VR:ni X (compareOp .Gt) (Jc λi j=>.bl (decide (j<i))):=Ju λ_ _ _ _ _ _ _ q=>gt_int q
theorem V0:ni X (compareOp .GtE) (Jc λi j=>.bl (decide (j<=i))):=Ju λ_ _ _ _ _ _ _ q=>ge_int q
theorem yT{op:CmpOp}{r:R2}(ho:ni X (compareOp op) r)(ha:PE X a ta)(hb:PE X b tb)(hm:behindInMarks op b=false):PE X (.Compare a [op] [b] pos) (Yv r ta tb):=by
 intro ah s σ H Q I h
 exact wpAny_Compare1 (Px ha hb I h λv u s2 x y H2 I2 rx ry q=>ho ah s2 σ H2 x y v u Q I2 rx ry q) hm
noncomputable def V1(t:TE):TT:=λσ H Q=>t σ H λx H'=>∃k,x=.bl k/\Q k H'
theorem sH{op:CmpOp}{r:R2}(ho:ni X (compareOp op) r)(ha:PE X a ta)(hb:PE X b tb)(hm:behindInMarks op b=false):PT X (.Compare a [op] [b] pos) (V1 (Yv r ta tb)):=by
 intro ah s σ H Q I h
 refine wpAny_isTrue_Compare1 (bN (ha ah s σ H _ I h) λv s1 ⟨x,H1,I1,r1,q1⟩=>bN (hb ah s1 σ H1 _ I1 q1) λu s2 ⟨y,H2,I2,r2,q2⟩=>
  bN (ho ah s2 σ H2 x y v u _ I2 r1 r2 q2) λc s3 ⟨z,H3,I3,r3,k,e,q3⟩=>?_) hm
 subst e
 cases r3
 exact aaT ⟨H3,I3,q3⟩
noncomputable def V2(K:Frag)(x:V)(H:Hp)(k:Bool):Prop:=
 match x with
 |.non=>k=false
 |.bl b=>k=b
 |.int i=>k=(i != 0)
 |.str y=>y.length<=sizeLine/\k=((y.length:Int) != 0)
 |.O2 y=>y.size<=sizeLine/\k=((y.size:Int) != 0)
 |.ref p=>(∃xs,cK K H p xs/\k=!xs.isEmpty)\/(∃xs,iA K H p xs/\k=!xs.isEmpty)\/∃jz,H p=some (.dK jz)/\k=!jz.isEmpty
 |_=>False
theorem wX{κ:Type}{jz:List (κ×V)}{vs:List (κ×Value)}(r:KV jz vs):(!vs.isEmpty)=!jz.isEmpty:=by
 cases r <;> rfl
theorem ou{xs:List V}{its:List Value}(r:Vals xs its):(!its.toArray.isEmpty)=!xs.isEmpty:=by
 cases r <;> simp
theorem ow:(sizeLine:Nat)<2 ^ 63:=by rw[aaY];decide
theorem PL:ZJ X (λx H Q=>∃k,V2 X.K x H k/\Q k H):=by
 intro ah s σ H x v Q I rx h
 obtain⟨k,e,q⟩:=h
 have hl:=ow
 have hs:sizeLine=16777216:=aaY
 cases x with
 |non=>
  cases rx
  have e':k=false:=e
  subst e'
  exact truthy_none ⟨H,I,q⟩
 |bl b=>
  cases rx
  have e':k=b:=e
  subst e'
  exact aaT ⟨H,I,q⟩
 |int i=>
  obtain⟨t,rfl⟩:=rx
  have e':k=(i != 0):=e
  subst e'
  exact PySem.P.truthy_int ⟨H,I,q⟩
 |str y=>
  obtain⟨t,rfl⟩:=rx
  obtain⟨hy,e'⟩:y.length<=sizeLine/\k=((y.length:Int) != 0):=e
  subst e'
  exact PySem.P.truthy_str (by lia) ⟨H,I.tok _,q⟩
 |O2 y=>
  obtain⟨t,rfl⟩:=rx
  obtain⟨hy,e'⟩:y.size<=sizeLine/\k=((y.size:Int) != 0):=e
  subst e'
  exact PySem.W.truthy_bytes (by lia) ⟨H,I.tok _,q⟩
 |ref p=>
  cases rx
  have e':(∃xs,cK X.K H p xs/\k=!xs.isEmpty)\/(∃xs,iA X.K H p xs/\k=!xs.isEmpty)\/∃jz,H p=some (.dK jz)/\k=!jz.isEmpty:=e
  rcases e' with ⟨xs,hx,e'⟩ |⟨xs,hx,e'⟩ |⟨jz,hx,e'⟩
  .
   subst e'
   obtain⟨its,r,pl,hz⟩:=I.list hx
   have aL:=r.length
   exact wpAny_truthy_list pl.isList (by simp only[aag];lia) ⟨H,I.tok _,by rw[ou r];exact q⟩
  .
   subst e'
   obtain⟨its,r,pl,hz⟩:=I.tuple hx
   have aL:=r.length
   exact truthy_tuple pl (by simp only[aag];lia) ⟨H,I.tok _,by rw[ou r];exact q⟩
  .
   subst e'
   obtain⟨hz,hS,vs,r,m⟩:jz.length<=sizeLine/\(p==sysModules)=false/\∃vs,KV jz vs/\s.heap.DictOf (se X.prog X.w) p vs:=I.hok p _ hx
   have aL:jz.length=vs.length:=Paired.length r
   exact wpAny_truthy_dict hS m (by lia) ⟨H,I.tok _,by rw[wX r];exact q⟩
 |_=>exact (show False from e).elim
theorem DW(ha:PE X a ta)(he:∀whole,isTrue a X.env whole=(do let v <- whole;standAt a.pos;holding [v] (truthy v))) :
  PT X a (λσ H Q=>ta σ H λx H'=>∃k,V2 X.K x H' k/\Q k H'):=by
 intro ah s σ H Q I h
 exact isTrue_plain (bN (ha ah s σ H _ I h) λv s1 ⟨x,H1,I1,r1,q1⟩=>PL ah s1 σ H1 x v Q I1 r1 q1) (he _)
theorem vals1(r:Vals [x] us):∃u,us=[u]/\RelV x u:=by
 cases r with
 |cons r1 r2=>cases r2;exact⟨_,rfl,r1⟩
theorem vals2(r:Vals [x,y] us):∃u w',us=[u,w']/\RelV x u/\RelV y w':=by
 cases r with
 |cons r1 r2=>
  cases r2 with
  |cons r3 r4=>cases r4;exact⟨_,_,rfl,r1,r3⟩
theorem Aj(hc:X.calm=true):fF X (.builtin "max") (λxs H Q=>∃i j,xs=[.int i,.int j]/\Q (.int (if j > i then j else i)) H):=by
 intro ah s σ H xs us Q I r h
 obtain⟨i,j,rfl,q⟩:=h
 obtain⟨u,w',rfl,⟨t,rfl⟩,⟨t',rfl⟩⟩:=vals2 r
 refine max_two_ints (I.ok.hd hc) λh' tk k=>⟨_,H,I.kept k,?_,q⟩
 by_cases hj:j > i
 .
  rw[aav hj,aav hj];exact⟨_,rfl⟩
 .
  rw[aau hj,aau hj];exact⟨_,rfl⟩
theorem Ak(hc:X.calm=true):fF X (.builtin "min") (λxs H Q=>∃i j,xs=[.int i,.int j]/\Q (.int (if j<i then j else i)) H):=by
 intro ah s σ H xs us Q I r h
 obtain⟨i,j,rfl,q⟩:=h
 obtain⟨u,w',rfl,⟨t,rfl⟩,⟨t',rfl⟩⟩:=vals2 r
 refine min_two_ints (I.ok.hd hc) λh' tk k=>⟨_,H,I.kept k,?_,q⟩
 by_cases hj:j<i
 .
  rw[aav hj,aav hj];exact⟨_,rfl⟩
 .
  rw[aau hj,aau hj];exact⟨_,rfl⟩
noncomputable def ZM(K:Frag)(x:V)(H:Hp)(n:Nat):Prop:=
 match x with
 |.str y=>y.length<=sizeLine/\n=y.length
 |.O2 y=>y.size<=sizeLine/\n=y.size
 |.ref p=>(∃xs,cK K H p xs/\n=xs.length)\/∃xs,iA K H p xs/\n=xs.length
 |_=>False
theorem DX:fF X (.builtin "len") (λxs H Q=>∃x n,xs=[x]/\ZM X.K x H n/\Q (.int n) H):=by
 intro ah s σ H xs us Q I r h
 obtain⟨x,n,rfl,e,q⟩:=h
 obtain⟨u,rfl,rx⟩:=vals1 r
 have hl:=ow
 have hs:sizeLine=16777216:=aaY
 cases x with
 |str y=>
  obtain⟨t,rfl⟩:=rx
  obtain⟨hy,e'⟩:y.length<=sizeLine/\n=y.length:=e
  subst e'
  exact len_str (by lia) ⟨.int _,H,I.tok _,⟨_,rfl⟩,q⟩
 |O2 y=>
  obtain⟨t,rfl⟩:=rx
  obtain⟨hy,e'⟩:y.size<=sizeLine/\n=y.size:=e
  subst e'
  exact PySem.W.len_bytes (by lia) ⟨.int _,H,I.tok _,⟨_,rfl⟩,q⟩
 |ref p=>
  cases rx
  have e':(∃xs,cK X.K H p xs/\n=xs.length)\/∃xs,iA X.K H p xs/\n=xs.length:=e
  rcases e' with ⟨xs,hx,e'⟩ |⟨xs,hx,e'⟩
  .
   subst e'
   obtain⟨its,r',pl,hz⟩:=I.list hx
   have aL:=r'.length
   exact Calls.call_len_list pl.isList (by simp only[aag];lia) ⟨.int xs.length,H,I.tok _,⟨_,by simp only[aag];rw[aL]⟩,q⟩
  .
   subst e'
   obtain⟨its,r',pl,hz⟩:=I.tuple hx
   have aL:=r'.length
   exact len_tuple pl (by simp only[aag];lia) ⟨.int xs.length,H,I.tok _,⟨_,by simp only[aag];rw[aL]⟩,q⟩
 |_=>exact (show False from e).elim
end
section
variable{prog:Program}{w:World}{A:Around}{E:Value->Shared->Prop}{s:Shared}{K:Frag}{x dx C f:Addr}{mA:Str->Option Value}{name:Str}{v:Value}
end
section
variable{P:Program}{w:World}{H H':Hp}{h h':Heap}{a C dx:Addr}{fs fs':List (Str×V)}
end
section
variable{X:Cx}{ah:List (Addr×Obj)}{σ:St}{H:Hp}{s:Shared}{a C dx:Addr}{fs:List (Str×V)}{f:Str}{v:V}{A:Around}{E:Value->Shared->Prop}
end
section
variable{X:Cx}{o e value:Expr}{f:Str}{pos pos' jR:Pos}{ta tv:TE}
end
section
variable{X:Cx}{ah:List (Addr×Obj)}{σ:St}{H:Hp}{s:Shared}{A:Around}{E:Value->Shared->Prop}{Q:Value->Shared->Prop}{c:Value}{b:Bool}
end
structure cu(k:Nat)(A:Around):Prop where
 hd:A.handled=none
 dp:A.depth+3 * k+5<recursionLimit
 un:A.units+16 * k+200<cLine
theorem cu.mono{j k:Nat}{A:Around}(r:cu k A)(h:j<=k):cu j A:=⟨r.hd,by have:=r.dp;lia,by have:=r.un;lia⟩
theorem cu.deeper(r:cu (k+1) A)(env:Env):cu k (A.deeper env):=
 ⟨r.hd,by have:=r.dp;show A.depth+1+3 * k+5<_;lia,by have:=r.un;show A.units+3+16 * k+200<_;lia⟩
theorem cu.depth{k:Nat}{A:Around}(r:cu k A):A.depth<recursionLimit:=by have:=r.dp;lia
noncomputable def ZN:TA:=λ_ H Q=>Q [] H
noncomputable def V3(ta:TE)(tr:TA):TA:=λσ H Q=>ta σ H λx H1=>tr σ H1 λxs H2=>Q (x::xs) H2
section
variable{X:Cx}{e:Expr}{es:List Expr}{te:TE}{t:TA}{pos:Pos}
theorem gJ:PA X [] ZN:=λ_ _ _ _ H Q I h=>Calls.spliced_nil ⟨[],H,I,.nil,h⟩
theorem bG(ha:PE X e te)(hr:PA X es t)(hs:starEach (e::es) X.env=(false,eval e X.env)::starEach es X.env:=by rfl):PA X (e::es) (V3 te t):=by
 intro pos ah s σ H Q I h
 rw[hs]
 show wpAny _ _ (spliced ((false,eval e X.env)::backTo pos (starEach es X.env))) _ _ s
 refine Calls.spliced_cons (bN (ha ah s σ H _ I h) λu s1 ⟨x,H1,I1,r1,q1⟩=>?_)
 exact bN (hr pos ah s1 σ H1 _ I1 q1) λus s2 ⟨xs,H2,I2,r2,q2⟩=>⟨x::xs,H2,I2,.cons r1 r2,q2⟩
noncomputable def ZP(t:TA):TE:=λσ H Q=>t σ H λxs H1=>xs.length<=sizeLine/\∀p,H1 p=none->Q (.ref p) (upd H1 p (.tup xs))
noncomputable def ZQ(t:TA):TE:=λσ H Q=>t σ H λxs H1=>xs.length<=sizeLine/\∀p,H1 p=none->Q (.ref p) (upd H1 p (.lst xs))
theorem DY{x1}(h:PA X es t):PE X (.Tuple es x1 pos) (ZP t):=by
 intro ah s σ H Q I hq
 refine wpAny_Tuple_spliced (bN (h pos ah s σ H _ I hq) λus s1 ⟨xs,H1,I1,r,z,q⟩=>⟨by rw[<- r.length];exact z,?_⟩)
 have hf:H1 s1⁻¹=none:=I1.hok.fresh (aal _)
 refine⟨.ref s1⁻¹,upd H1 s1⁻¹ (.tup xs),I1.laid (t':=s1.toks) (λb u e=>aae _ e) (aal _) ?_,rfl,q _ hf⟩
 exact⟨z,us,r,⟨_,aaq _ rfl,⟨rfl,_,rfl⟩,rfl⟩⟩
theorem Ea(h:PA X es t):PE X (.List es pos) (ZQ t):=by
 intro ah s σ H Q I hq
 refine wpAny_List_spliced (bN (h pos ah s σ H _ I hq) λus s1 ⟨xs,H1,I1,r,z,q⟩=>⟨by rw[<- r.length];exact z,?_⟩)
 have hf:H1 s1⁻¹=none:=I1.hok.fresh (aal _)
 refine⟨.ref s1⁻¹,upd H1 s1⁻¹ (.lst xs),I1.laid (t':=s1.toks) (λb u e=>aae _ e) (aal _) ?_,rfl,q _ hf⟩
 exact⟨z,us,0,r,aaq _ rfl⟩
end
abbrev Sp:=List V->Hp->VK->XK->Prop
abbrev Al:=List Env->Hp->Shared->XK->Value->Shared->Prop
structure Eb(P:Program)(w:World)(K:Frag)(mg:Str->Option Value)(base:Heap)(A:Around)(outer:List Env)(s:Shared)(H:Hp):Prop where
 frames:A.frames=some outer
 mod:Mod K mg base
 bs:∀b o,base.get? b=some o->s.heap.get? b=some o/\H b=none
 DG:base.objs.size<=s⁻¹
 jX:s.heap.FunFrames base outer
 Jp:∀b∈frs outer,H b=none
 hok:kX P w H s.heap
 bare:AllBare s.gens
noncomputable def CE(outer:List Env)(P:Program)(w:World)(H:Hp)(s:Shared)(Q:VK)(u:Value)(s':Shared):Prop:=
 ∃v H',s'.os=s.os/\AllBare s'.gens/\Un (frs outer) [] H H' s.heap s'.heap/\kX P w H' s'.heap/\RelV v u/\Q v H'
noncomputable def CR(CX:Al)(outer:List Env)(P:Program)(w:World)(H:Hp)(s:Shared)(Q:VK)(E:XK)(r:Result)(s':Shared):Prop:=
 match r with
 |.ok (.ret u)=>CE outer P w H s Q u s'
 |.ok _=>False
 |.error e=>CX outer H s E e s'
structure iW(P:Program)(w:World)(K:Frag)(mg:Str->Option Value)(base:Heap)(CX:Al)(k:Nat)(f:Addr)(fd:FuncData)(ps:List Str)(sp:Sp):Prop where
 len:∀vs H Q E,sp vs H Q E->vs.length=ps.length
 run:∀(A:Around) (outer:List Env) (s:Shared) (H:Hp) (args:Args) (us:List Value) (vs:List V) (Q:VK) (E:XK),cu k A->Eb P w K mg base A outer s H->BindsTo s fd args (ps.zip us)->Vals vs us->sp vs H Q E->
  codeAny (model P w) A (.call (.ref f) args) (CR CX outer P w H s Q E) s
section
variable{X:Cx}{ah:List (Addr×Obj)}{σ:St}{H:Hp}{s s':Shared}
theorem Inv.Jw(I:Inv X ah σ H s):Eb X.prog X.w X.K X.mg X.base X.A X.stack s H:=
 ⟨I.ok.frames,I.ok.mod,I.bs,aaI I.ok.DG I.sz,I.stack,I.sr,I.hok,I.bare⟩
theorem Inv.after(I:Inv X ah σ H s)(h:CE X.stack X.prog X.w H s Q u s'):EP X ah σ Q u s':=by
 obtain⟨v,H',os,bare,un,hok,r,q⟩:=h
 obtain⟨hh,g,d,t,os'⟩:=s'
 obtain rfl:os'=s.os:=os
 exact⟨v,H',I.call (h':=hh) (g':=g) (d':=d) (t':=t) (ch:=[]) un hok bare (λb z=>absurd z (by simp)),r,q⟩
end
noncomputable def V4(sp:Sp)(mq:List V)(E:XK)(t:TA):TE:=λσ H Q=>t σ H λvs H1=>sp (vs++mq) H1 Q E
def Binds(K:Frag)(fd:FuncData)(ps:List Str)(ds:List Value):Prop:=
 ∀(s:Shared) (us:List Value),K.In s.heap->(us++ds).length=ps.length->BindsTo s fd ⟨us,[]⟩ (ps.zip (us++ds))
theorem Binds.all{K:Frag}{fd:FuncData}{ps:List Str}(h:∀us:List Value,us.length=ps.length->bindArgs fd ⟨us,[]⟩=pure (ps.zip us)):Binds K fd ps []:=λs us _ hl=>by
 rw[aaV]at hl ⊢
 exact .of_eq (h us hl)
def Passes(CX:Al)(X:Cx)(E:XK):Prop:=∀(ah:List (Addr×Obj)) (σ:St) (H:Hp) (s:Shared) (e:Value) (s':Shared),Inv X ah σ H s->CX X.stack H s E e s'->X.xe e s'
section
variable{X:Cx}{CX:Al}{k:Nat}{f C:Addr}{fd:FuncData}{ps:List Str}{sp:Sp}{mq:List V}{ds:List Value}{E:XK}{x m:Str}{p pos aQ:Pos}{e o:Expr}{es:List Expr}{ta:TE}{t:TA}
theorem PN{ah:List (Addr×Obj)}{σ:St}{H:Hp}{s:Shared}{Q:VK}{us:List Value}{vs:List V}(F:iW X.prog X.w X.K X.mg X.base CX k f fd ps sp)(hr:cu k X.A)(hb:Binds X.K fd ps ds)(hd:Vals mq ds)(hx:Passes CX X E)
  (I:Inv X ah σ H s) (r:Vals vs us) (h:sp (vs++mq) H Q E):wpAny (model X.prog X.w) X.A (call (.ref f) us) (EP X ah σ Q) X.xe s:=by
 have r2:Vals (vs++mq) (us++ds):=r.append hd
 have hl:(us++ds).length=ps.length:=by rw[<- r2.length];exact F.len _ _ _ _ h
 refine wpAny_call (acr (F.run X.A X.stack s H ⟨us,[]⟩ (us++ds) (vs++mq) Q E hr I.Jw (hb s us I.nh hl) r2 h) λr s' hq=>?_)
 cases r with
 |error e=>exact hx ah σ H s e s' I hq
 |ok fl=>
  cases fl with
  |ret u=>exact I.after hq
  |next=>exact False.elim hq
  |brk=>exact False.elim hq
  |cont=>exact False.elim hq
theorem yU(F:iW X.prog X.w X.K X.mg X.base CX k f fd ps sp)(hr:cu k X.A)(hg:Gl X x)(hm:X.mg x=some (.ref f))(hk:PySem.W.keepIn X.K (.ref f)=true)(hb:Binds X.K fd ps ds)(hd:Vals mq ds)(hx:Passes CX X E)
  (ha:PA X (e::es) t) (jy:(x==("__debug__" : Str))=false:=by decide) (he:starEach (e::es) X.env=(false,eval e X.env)::starEach es X.env:=by rfl) (iu:(backTo pos (starEach es X.env)).any (·.1)=false:=by rfl) :
  PE X (.Call (.Name x p) (e::es) [] pos) (V4 sp mq E t):=by
 intro ah s σ H Q I h
 refine abd (fE I hg hm ?_ jy)
 refine abS (h₀:=X.base) I.ok.mod.Dl hk (bN (ha pos ah s σ H _ I h) λus s1 ⟨vs,H1,I1,r,q⟩=>⟨I1.nh,?_⟩) he iu
 exact PN F hr hb hd hx I1 r q
end
section
variable{X:Cx}{CX:Al}{k:Nat}{f C:Addr}{fd:FuncData}{ps ks:List Str}{sp:Sp}{E:XK}{x m:Str}{p pos aQ kpos:Pos}{e o:Expr}{es:List Expr}{kws:List Keyword}{te ta:TE}{t tk:TA}{nm:Option Str}
variable{g:List Value->List Value->List Value}{gV:List V->List V->List V}
end
structure bV(N P:List Str)(sc:Scope):Prop where
 kind:sc.kind=.function
 co:sc.isCoroutine=false
 gen:sc.isGenerator=false
 nd:N.Nodup
 pre:N.take P.length=P
 par:∀x∈P,sc.names.lookup x=some .local\/sc.names.lookup x=some .cell
 PX:∀y∈sc.names,y.2≠.free
theorem qT{kindOf:Str->Option NameKind}{x:Str}:∀{binds:List (Str×Value)}{m:Str->Option Value},(∀v,(x,v)∉binds)->bindL kindOf binds m x=m x
 | [],_,_=>rfl
 | (n,v)::r,m,h=>by
  unfold bindL
  rw[qT λw hw=>h w (aaf _ hw)]
  split
  .
   have:x≠n:=by rintro rfl;exact h v aah
   simp[this]
  .
   rfl
theorem qU{kindOf:Str->Option NameKind}{x:Str}:∀{binds:List (Str×Value)}{m:Str->Option Value},(∀v,(x,v)∉binds)->bindC kindOf binds m x=m x
 | [],_,_=>rfl
 | (n,v)::r,m,h=>by
  unfold bindC
  rw[qU λw hw=>h w (aaf _ hw)]
  split
  .
   rfl
  .
   have:x≠n:=by rintro rfl;exact h v aah
   simp[this]
theorem qV{kindOf:Str->Option NameKind}{x:Str}{v:Value}:∀{P:List Str}{vs:List Value}{i:Nat}{m:Str->Option Value},P.Nodup->P[i]?=some x->vs[i]?=some v->kindOf x=some .local->
  bindL kindOf (P.zip vs) m x=some v
 | [],_,_,_,_,h,_,_=>by simp at h
 |_::_,[],_,_,_,_,h,_=>by simp at h
 |p::P,w::vs,0,m,nd,h1,h2,hk=>by
  simp at h1 h2;subst h1;subst h2
  show bindL kindOf ((p,w)::P.zip vs) m p=_
  unfold bindL
  rw[qT λv hv=>(aay.mp nd).1 (acK hv).1,aav hk]
  simp
 |p::P,w::vs,i+1,m,nd,h1,h2,hk=>by
  show bindL kindOf ((p,w)::P.zip vs) m x=_
  unfold bindL
  exact qV (i:=i) (aay.mp nd).2 (by simpa using h1) (by simpa using h2) hk
theorem qW{kindOf:Str->Option NameKind}{x:Str}{v:Value}:∀{P:List Str}{vs:List Value}{i:Nat}{m:Str->Option Value},P.Nodup->P[i]?=some x->vs[i]?=some v->kindOf x≠some .local->
  bindC kindOf (P.zip vs) m x=some v
 | [],_,_,_,_,h,_,_=>by simp at h
 |_::_,[],_,_,_,_,h,_=>by simp at h
 |p::P,w::vs,0,m,nd,h1,h2,hk=>by
  simp at h1 h2;subst h1;subst h2
  show bindC kindOf ((p,w)::P.zip vs) m p=_
  unfold bindC
  rw[qU λv hv=>(aay.mp nd).1 (acK hv).1,aau hk]
  simp
 |p::P,w::vs,i+1,m,nd,h1,h2,hk=>by
  show bindC kindOf ((p,w)::P.zip vs) m x=_
  unfold bindC
  exact qW (i:=i) (aay.mp nd).2 (by simpa using h1) (by simpa using h2) hk
noncomputable def start(N:List Str)(vs:List V):St:=vs.map some++List.replicate (N.length - vs.length) none
noncomputable def fL(CX:Al)(P:Program)(w:World)(K:Frag)(mg:Str->Option Value)(base:Heap)(N:List Str)(qual:Str)(scope:Scope)(f:Addr)(cd:Value)(A:Around)(outer:List Env)(s:Shared)(H:Hp)(E:XK):Cx where
 prog:=P
 w:=w
 K:=K
 mg:=mg
 base:=base
 A:=A.deeper (envOfC qual scope s⁻¹ f cd)
 N:=N
 s₀:=s
 H₀:=H
 env:=envOfC qual scope s⁻¹ f cd
 outer:=outer
 stack:=envOfC qual scope s⁻¹ f cd::outer
 ex:=[]
 calm:=true
 fn:=λ_=>true
 pn:=[]
 xe:=λe s'=>wpAny (model P w) (A.deeper (envOfC qual scope s⁻¹ f cd)) (leaving (envOfC qual scope s⁻¹ f cd) e) (λ_ s''=>CX outer H s E e s'') (λe' s''=>CX outer H s E e' s'') s'
theorem uJ{sc:Scope}{n:Nat}{x:Str}(h:sc.names.lookup x=some .cell):∃c,(cellsFrom n sc.names []).lookup x=some c:=by
 have q:=acf sc.names n [] (.inl h)
 exact Option.isSome_iff_exists.mp q
theorem qX{CX:Al}{P:Program}{w:World}{K:Frag}{mg:Str->Option Value}{base:Heap}{N ps:List Str}{qual:Str}{scope:Scope}{f:Addr}{cd:Value}{A:Around}{outer:List Env}{s s1:Shared}{H:Hp}{E:XK}{us:List Value}{vs:List V}
  (S:bV N ps scope) (hd:A.handled=none) (e0:Eb P w K mg base A outer s H) (hl:vs.length=ps.length) (r:Vals vs us)
  (x:InCallC s s⁻¹ (bindL (envOfC qual scope s⁻¹ f cd).kindOf (ps.zip us) λ_=>none) (cellsFrom (s⁻¹+1) scope.names []) (bindC (envOfC qual scope s⁻¹ f cd).kindOf (ps.zip us) λ_=>none) s1) :
  Inv (fL CX P w K mg base N qual scope f cd A outer s H E) [] (start N vs) H s1:=by
 have iu:ps.length<=N.length:=by have:=congrArg List.length S.pre;rw[abn]at this;lia
 obtain⟨h1,tk,rfl,hk⟩:=x.done
 have V5:∀b:Addr,b∉(fL CX P w K mg base N qual scope f cd A outer s H E).ex:=λb z=>absurd (show b∈([]:List Addr)from z) (by simp)
 refine⟨⟨e0.mod,S.kind,rfl,rfl,aal _,λy z c h1 h2=>?_,λy hy=>?_,λy c _ h=>?_,λ_=>hd,Around.frames_deeper e0.frames,.inr ⟨rfl,rfl⟩,λb z=>absurd z (V5 b),e0.bs,e0.DG,λb _ _=>V5 b,λb z=>absurd z (V5 b),e0.jX,e0.Jp⟩,
  rfl,e0.bare,Un.kept hk,⟨_,x.toInCall.ns,λi y v h1 h2 h3=>?_⟩,λy c h=>⟨_,x.cell y c h⟩,e0.hok.fresh (aal _),λy c h=>?_,λp hp=>absurd (show p∈([]:List (Addr×Obj))from hp) (by simp),e0.hok.kept hk,?_⟩
 .
  exact name_of_addr x.apart (abL h1) (abL h2)
 .
  have hy:scope.names.lookup y=some .cell\/scope.names.lookup y=some .free:=hy
  rcases hy with hy |hy
  .
   exact uJ hy
  .
   exact absurd rfl (S.PX _ (abL hy))
 .
  exact acQ (x.above y c (abL h))
 .
  have hi:i<vs.length:=by
   unfold start at h2
   by_cases hi:i<vs.length
   .
    exact hi
   .
    rw[aam (by simpa using hi)]at h2
    rw[ab6]at h2
    split at h2 <;> cases h2
  have ha:vs[i]?=some v:=by
   unfold start at h2
   rw[aat (by simpa using hi),abq]at h2
   cases e:vs[i]? with
   |none=>rw[e]at h2;cases h2
   |some a=>rw[e]at h2;cases h2;rfl
  obtain⟨u,hu,rv⟩:=r.get ha
  have hp:ps[i]?=some y:=by
   rw[<- S.pre,abl (by lia)];exact h1
  have ndP:ps.Nodup:=by rw[<- S.pre];exact S.nd.sublist (List.take_sublist _ _)
  refine⟨u,rv,?_⟩
  rcases S.par y (aaP hp)with k |k
  .
   exact .inl ⟨k,qV ndP hp hu k⟩
  .
   obtain⟨c,e⟩:=uJ (n:=s⁻¹+1) k
   refine .inr ⟨.inl k,c,e,?_⟩
   have q:=x.cell y c e
   rw[qW ndP hp hu (by show scope.names.lookup y≠_;rw[k];decide)]at q
   exact q
 .
  exact e0.hok.fresh (acQ (x.above y c (abL h)))
 .
  unfold start
  show _=N.length
  rw[aaw,aaA,aaB]
  lia
theorem NR{CX:Al}{P:Program}{w:World}{K:Frag}{mg:Str->Option Value}{base:Heap}{k:Nat}{f:Addr}{name qual:Str}{params:Arguments}{body:List Stmt}{scope:Scope}{dV kV doc pm bB ct oc:Value}{an od:Option Addr}
  {osl:Array (Option Value)}{N ps:List Str}{sp:Sp} (lk:K.lookup f=some ⟨oc,od,.func (PySem.W.fnOf name qual params body scope dV kV doc pm an bB ct),osl⟩) (bD:PySem.W.codeIn K bB qual=true) (S:bV N ps scope)
  (len:∀vs H Q E,sp vs H Q E->vs.length=ps.length)
  (hbody:∀(A:Around) (outer:List Env) (s:Shared) (H:Hp) (vs:List V) (Q:VK) (E:XK),cu k (A.deeper (envOfC qual scope s⁻¹ f bB))->sp vs H Q E->
   ∃t,su (fL CX P w K mg base N qual scope f bB A outer s H E) body t/\t { nx:=λ_ H'=>Q .non H',rt:=Q} (start N vs) H) :
  iW P w K mg base CX (k+1) f (PySem.W.fnOf name qual params body scope dV kV doc pm an bB ct) ps sp:=by
 refine⟨len,λA outer s H args us vs Q E hr e0 hb r UT=>?_⟩
 have hl:=len _ _ _ _ UT
 have KX:K.In s.heap:=e0.mod.Dl.keeps λb o e=>(e0.bs b o e).1
 have lim:s.heap.NoLimit:=e0.mod.nolimit.keeps λb o e=>(e0.bs b o e).1
 have hkind:∀y∈ps.zip us,scope.names.lookup y.1=some .local\/(scope.names.lookup y.1=some .cell/\((cellsFrom (s⁻¹+1) scope.names []).lookup y.1).isSome=true):=λ⟨n,v⟩ hy=>by
  rcases S.par n (acK hy).1 with q |q
  .
   exact .inl q
  .
   exact .inr ⟨q,acf _ _ _ (.inl q)⟩
 refine codeAny_call_function hr.depth (KX _ _ lk) rfl S.co S.gen rfl (PySem.W.codeRec_of KX bD) (hb _ _ _ _ ?_)
 refine wpAny_newFunctionEnv_cells S.kind hkind λenv he s1 x=>?_
 subst he
 refine⟨lim.keeps x.toInCall.keep,codeAny_func ?_⟩
 obtain⟨t,ht,hq⟩:=hbody A outer s H vs Q E (hr.deeper _) UT
 have I:Inv (fL CX P w K mg base N qual scope f bB A outer s H E) [] (start N vs) H s1:=qX S hr.hd e0 hl r x
 refine aaN (ht [] s1 (start N vs) H _ I hq) (λfl s' hs=>?_) λe s' hs=>hs
 have fin:∀{σ':St}{H':Hp}{v:V}{u:Value},Inv (fL CX P w K mg base N qual scope f bB A outer s H E) [] σ' H' s'->RelV v u->Q v H'->CE outer P w H s Q u s':=
  λ{σ' H' v u} J rv q=>⟨v,H',J.os,J.bare,J.base,J.hok,rv,q⟩
 cases fl with
 |ret u=>
  obtain⟨v,σ',H',J,rv,q⟩:=hs
  exact fin J rv q
 |next=>
  obtain⟨σ',H',J,q⟩:=hs
  exact fin (v:=V.non) (u:=Value.none) J rfl q
 |brk=>
  obtain⟨_,_,_,q⟩:=hs
  exact False.elim q
 |cont=>
  obtain⟨_,_,_,q⟩:=hs
  exact False.elim q
section
variable{X:Cx}{x:Str}{p pos:Pos}{e:Expr}{es:List Expr}{t:TA}{id T:String}{r:List V->Hp->VK->Prop}
noncomputable def tCB(r:List V->Hp->VK->Prop)(t:TA):TE:=λσ H Q=>t σ H λvs H1=>r vs H1 Q
theorem jZ(hc:fF X (.builtin id) r)(hg:Gl X x)(hm:X.mg x=none)(hv:bootBuiltins x=some (.builtin id))(ha:PA X (e::es) t)(hn:x≠ "__name__" :=by decide)(jy:(x==("__debug__" : Str))=false:=by decide)
  (he:starEach (e::es) X.env=(false,eval e X.env)::starEach es X.env:=by rfl) (iu:(backTo pos (starEach es X.env)).any (·.1)=false:=by rfl):PE X (.Call (.Name x p) (e::es) [] pos) (tCB r t):=by
 intro ah s σ H Q I h
 refine abd (gH I hg hm hv ?_ hn jy)
 exact PyProof.Rows.callWith_builtin1 (bN (ha pos ah s σ H _ I h) λus s1 ⟨vs,H1,I1,r1,q1⟩=>hc ah s1 σ H1 vs us Q I1 r1 q1) he iu
theorem Am(hc:fF X (.type T) r)(hg:Gl X x)(hm:X.mg x=none)(hv:bootBuiltins x=some (.type T))(ha:PA X (e::es) t)(hn:x≠ "__name__" :=by decide)(jy:(x==("__debug__" : Str))=false:=by decide)
  (he:starEach (e::es) X.env=(false,eval e X.env)::starEach es X.env:=by rfl) (iu:(backTo pos (starEach es X.env)).any (·.1)=false:=by rfl):PE X (.Call (.Name x p) (e::es) [] pos) (tCB r t):=by
 intro ah s σ H Q I h
 refine abd (gH I hg hm hv ?_ hn jy)
 exact aaU (bN (ha pos ah s σ H _ I h) λus s1 ⟨vs,H1,I1,r1,q1⟩=>hc ah s1 σ H1 vs us Q I1 r1 q1) he iu
end
end L2
namespace HT
open PySem PyProof.Rows
noncomputable def lexLt:List Int->List Int->Bool
 | [],[]=>false
 | [],_::_=>true
 |_::_,[]=>false
 |x::xs,y::ys=>if x=y then lexLt xs ys else decide (x<y)
theorem dm(x y:Int)(xs ys:List Int):lexLt (x::xs) (y::ys)=if x=y then lexLt xs ys else decide (x<y):=rfl
theorem qq:lexLt [] []=false:=rfl
theorem oz(y:Int)(ys:List Int):lexLt [] (y::ys)=true:=rfl
theorem oA(x:Int)(xs:List Int):lexLt (x::xs) []=false:=rfl
theorem Ec(A:Around)(s:Shared)(a:Int)(t:Tok)(c:Int)(u:Tok):∃e,SeqAt.EqAt A s (.int a t) (.int c u) e/\(e=true ↔ a=c):=
 ⟨(a==c),SeqAt.EqAt.int_int a t c u,by simp⟩
theorem Ed(A:Around)(s:Shared)(a:Int)(t:Tok)(c:Int)(u:Tok)(prog:Program)(w:World)(E:Value->Shared->Prop)(Q:Value->Shared->Prop)(h:Q (.bool (decide (a<c))) s) :
  wpAny (model prog w) A (richCompare .Lt (.int a t) (.int c u)) Q E s:=
 (PyProof.Rows.lt_int h:wpAny (model prog w) A (compareOp .Lt (.int a t) (.int c u)) Q E s)
section
open PySem.SeqAt
open PySem.AutoSeq1 (wpAny_loadPart')
open PySem.MeetsSeq PySem.MeetsSeq2 PySem.MeetsSeq3
theorem qu(l b:Addr)(items items2:Array Value)(n n2:Nat)(dd dd2:Option Addr)(sl sl2:Array (Option Value))(ns ms:List Int)(hi:IntsAre items.toList ns)(hj:IntsAre items2.toList ms) :
  Meets (Builtin.«tuple.__lt__» ⟨[.ref l,.ref b],[]⟩)
   (λ_ R s=>s.heap.get? l=some { cls:=.type "tuple",dict:=dd,data:=.seq items n,slots:=sl}/\s.heap.get? b=some { cls:=.type "tuple",dict:=dd2,data:=.seq items2 n2,slots:=sl2}/\
    R (.ok (.ret (.bool (lexLt ns ms)))) s):=
 .of_wp λprog w A R s h=>by
  obtain⟨hp,g,d,tk,os⟩:=s;obtain⟨hl,hb,h⟩:=h
  have f2:=AutoSeq1.sub_tuple_tuple
  have z1:items.size=ns.length:=by rw[<- hi.length];simp
  have z2:items2.size=ms.length:=by rw[<- hj.length];simp
  wp_walk using wpAny_loadPart' hl,wpAny_loadPart' hb,wpAny_forIn_list _ (λrest b s'=>b.1=none/\s'=⟨hp,g,d,tk,os⟩/\∃(vs ws:List Value) (ns' ms':List Int),rest=vs.zip ws/\
   IntsAre vs ns'/\IntsAre ws ms'/\ns'.length+items2.size=ms'.length+items.size/\R (.ok (.ret (.bool (lexLt ns' ms')))) ⟨hp,g,d,tk,os⟩) _
  case turn=>
   rintro⟨y,x⟩ rest b s' ⟨hb',rfl,vs,ws,ns',ms',hz,ZR,hwi,aL,hR⟩
   cases ZR with
   |nil=>rw[List.zip_nil_left]at hz;cases hz
   |cons a t ZS=>
    cases hwi with
    |nil=>rw[List.zip_nil_right]at hz;cases hz
    |cons c u ZT=>
     rw[ab7]at hz
     injection hz with hyx hrest
     injection hyx with hy hx
     subst hy hx
     rw[dm]at hR
     simp only[aaQ]at aL
     obtain⟨e,he,hiff⟩:=Ec A.in1 ⟨hp,g,d,tk,os⟩ a t c u
     refine aad (he prog w _ _ ?_)
     cases e with
     |true=>
      rw[aav (hiff.mp rfl)]at hR
      wp_walk
      exact⟨rfl,rfl,_,_,_,_,hrest,ZS,ZT,by lia,hR⟩
     |false=>
      rw[aau (λq=>absurd (hiff.mpr q) aaF)]at hR
      have hri:=Ed A.in1 ⟨hp,g,d,tk,os⟩ a t c u prog w
      wp_walk using hri
      exact⟨_,rfl,by simpa using hR⟩
  case fin=>
   rintro⟨b1,b2⟩ s' ⟨hb',rfl,vs,ws,ns',ms',hz,ZR,hwi,aL,hR⟩
   simp only at hb'
   subst hb'
   have hv:lexLt ns' ms'=decide (items.size<items2.size):=by
    cases ZR with
    |nil=>
     cases hwi with
     |nil=>
      simp only[ab8]at aL
      rw[qq]
      exact (abh (by lia)).symm
     |cons c u hw=>
      simp only[ab8,aaQ]at aL
      rw[oz]
      exact (abP (by lia)).symm
    |cons a t hv=>
     cases hwi with
     |nil=>
      simp only[ab8,aaQ]at aL
      rw[oA]
      exact (abh (by lia)).symm
     |cons c u hw=>
      rw[ab7]at hz
      cases hz
   rw[hv]at hR
   wp_walk
   exact⟨_,rfl,by simpa [Builtin.Tuple.tupleCompareSizes]using hR⟩
  case h=>
   exact⟨rfl,rfl,items.toList,items2.toList,ns,ms,rfl,hi,hj,by lia,h⟩
end
section
variable{prog:Program}{w:World}{A:Around}{E:Value->Shared->Prop}{s:Shared}
theorem wY(hl:IsTup s.heap l items)(hb:IsTup s.heap b items2)(hi:IntsAre items.toList ns)(hj:IntsAre items2.toList ms)
  (hu:A.units<cLine) (h:Q (.bool (lexLt ns ms)) s):wpAny (model prog w) A (compareOp .Lt (.ref l) (.ref b)) Q E s:=by
 obtain⟨⟨cls,dd,data,sl⟩,ho,hc,n,hd⟩:=id hl
 obtain⟨⟨V6,dd2,data2,sl2⟩,ho2,hc2,n2,hd2⟩:=id hb
 simp only at hc hd hc2 hd2
 subst hc hd hc2 hd2
 exact richCompare_meets_room (op:=.Lt) ⟨_,ho,rfl⟩ ⟨_,ho2,rfl⟩ PySem.F.slot_tuple_lt PySem.F.entry_tuple_lt (PySem.F.args_tuple_lt_2 _ _) (qu l b items items2 n n2 dd dd2 sl sl2 ns ms hi hj)
  ⟨ho,ho2,show Value.bool (lexLt ns ms)≠Value.notImplemented/\Q (.bool (lexLt ns ms)) s from⟨(λx=>nomatch x),h⟩⟩ hu
theorem Jx(ht:IsTup s.heap t vs.toArray)(hb:IsTup s.heap b ws.toArray)(hv:vs≠[])
  (h1:ws=[]->Q (.ref t) s) (h2:ws≠[]->Q (.ref s⁻¹) { s with heap:=s.heap.push { cls:=.type "tuple",data:=.seq (vs++ws).toArray}})
  (jS:vs.length+ws.length<=sizeLine):wpAny (model prog w) A (binaryOp .Add (.ref t) (.ref b)) Q E s:=by
 obtain⟨⟨cls,dd,data,sl⟩,ho,hc,n,hd⟩:=id ht
 obtain⟨⟨V6,dd2,data2,sl2⟩,ho2,hc2,n2,hd2⟩:=id hb
 simp only at hc hd hc2 hd2
 subst hc hd hc2 hd2
 have e:vs.toArray++ws.toArray=(vs++ws).toArray:=by simp
 by_cases hw:ws=[]
 .
  exact concat_meets ⟨_,ho,rfl⟩ ⟨_,ho2,rfl⟩ noFill_tuple_add seq_tuple_add acg ab9 (ab5 _ _)
   (tuple_addW1 t b vs.toArray ws.toArray n n2 dd dd2 sl sl2 (by simpa using hv) (by simp[hw])) ⟨ho,ho2,h1 hw⟩
 .
  refine concat_meets ⟨_,ho,rfl⟩ ⟨_,ho2,rfl⟩ noFill_tuple_add seq_tuple_add acg ab9 (ab5 _ _)
   (tuple_addW2 t b vs.toArray ws.toArray n n2 dd dd2 sl sl2 (by simpa using hv) (by simpa using hw) (by rw[aag,aag];exact jS)) ⟨ho,ho2,?_⟩
  rw[e]
  exact h2 hw
noncomputable def bU(n d:Nat):Option Int->Nat
 |none=>d
 |some v=>if v<0 then (v+(n:Int)).toNat else min v.toNat n
theorem P0(n d:Nat)(hd:d<=n)(o:Option Int):bU n d o<=n:=by
 cases o with
 |none=>exact hd
 |some v=>
  show (if v<0 then (v+(n:Int)).toNat else min v.toNat n)<=n
  by_cases hv:v<0
  .
   rw[aav hv];lia
  .
   rw[aau hv];exact Nat.min_le_right _ _
theorem yV(v:Int)(n d:Nat):(if v<0 then max (v+(n:Int)) 0 else min v (n:Int))=((bU n d (some v):Nat):Int):=by
 show (if v<0 then max (v+(n:Int)) 0 else min v (n:Int))=(((if v<0 then (v+(n:Int)).toNat else min v.toNat n):Nat):Int)
 by_cases hv:v<0
 .
  simp only[aav hv];lia
 .
  simp only[aau hv];lia
theorem wZ(lo hi:Option Int)(n:Nat):Builtin.Slice.sliceAdjust lo hi 1 (n:Int)=(((bU n 0 lo:Nat):Int),((bU n n hi:Nat):Int)):=by
 have h1 : ¬ ((1:Int)<0):=by lia
 unfold Builtin.Slice.sliceAdjust
 simp only[h1,if_false]
 refine Prod.ext ?_ ?_
 .
  cases lo with
  |none=>rfl
  |some v=>exact yV v n 0
 .
  cases hi with
  |none=>rfl
  |some v=>exact yV v n n
theorem xg(i j:Nat):Builtin.Slice.slicePlaces (i:Int) (j:Int) 1=j - i:=by
 unfold Builtin.Slice.slicePlaces
 have h1:(1:Int) > 0:=by lia
 simp only[h1,abM,Int.ediv_one]
 split <;> lia
theorem jA(p:IsPart v o)(h:Q o s):wpAny (model prog w) A (Builtin.Slice.slicePartIndex v) Q E s:=by
 cases p with
 |none=>exact slicePart_none h
 |int i t=>exact slicePart_int h
theorem fP{sl:Addr}{vl vu:Value}{lo hi:Option Int}{n:Nat}{Q:Int×Int×Nat->Shared->Prop}(hs:s.heap.IsSliceOf sl vl vu .none)(pl:IsPart vl lo)(pu:IsPart vu hi)
  (h:Q (((bU n 0 lo:Nat):Int),1,bU n n hi - bU n 0 lo) s):wpAny (model prog w) A (Builtin.Slice.sliceApplied (.ref sl) (pure (n:Int))) Q E s:=by
 obtain⟨os,hos,hcs,hds⟩:=id hs
 unfold Builtin.Slice.sliceApplied Builtin.Slice.sliceFields
 refine aad (aad (aaR hos hds (x:=vl) rfl (aad (aaR hos hds (x:=vu) rfl (aad (aaR hos hds (x:=.none) rfl (aak ?_)))))))
 refine aad (slicePart_none ?_)
 show wpAny _ _ (if ((1:Int)==0)=true then _ else _) _ _ s
 rw[aau (by decide)]
 refine aad (jA pl (aad (jA pu (aad (aak ?_)))))
 show wpAny _ _ (match Builtin.Slice.sliceAdjust lo hi 1 (n:Int)with | (lo,hi)=>pure (lo,(1:Int),Builtin.Slice.slicePlaces lo hi 1)) _ _ s
 rw[wZ lo hi n]
 show wpAny _ _ (pure (((bU n 0 lo:Nat):Int),(1:Int),Builtin.Slice.slicePlaces ((bU n 0 lo:Nat):Int) ((bU n n hi:Nat):Int) 1)) _ _ s
 rw[xg]
 exact aak h
theorem Ef(xs:Array Value)(i k:Nat):((List.range k).filterMap λ(m:Nat)=>xs[((i:Int)+(m:Int) * 1).toNat]?).toArray=((xs.toList.drop i).take k).toArray:=by
 have e:(λ(m:Nat)=>xs[((i:Int)+(m:Int) * 1).toNat]?)=λm=>xs[i+m]?:=by
  funext m
  have:((i:Int)+(m:Int) * 1).toNat=i+m:=by lia
  rw[this]
 rw[e]
 have:=pick_run xs i k
 rw[List.filterMap_map]at this
 have e2:((λx=>xs[x]?) ∘ λx=>i+x)=λm=>xs[i+m]?:=rfl
 rw[e2]at this
 rw[this]
theorem j3{t sl:Addr}{items:Array Value}{vl vu:Value}{lo hi:Option Int}{Q:Value->Shared->Prop}(ht:IsTup s.heap t items)(hs:s.heap.IsSliceOf sl vl vu .none)(pl:IsPart vl lo)(pu:IsPart vu hi)
  (hw : ¬ (bU items.size 0 lo=0/\bU items.size items.size hi=items.size))
  (h:Q (.ref s⁻¹) { s with heap:=s.heap.push { cls:=.type "tuple",data:=.seq ((items.toList.drop (bU items.size 0 lo)).take (bU items.size items.size hi - bU items.size 0 lo)).toArray}})
  (jS:items.size<=sizeLine):wpAny (model prog w) A (getItem (.ref t) (.ref sl)) Q E s:=by
 have j4:sizeOk (.seq ((items.toList.drop (bU items.size 0 lo)).take (bU items.size items.size hi - bU items.size 0 lo)).toArray):=by
  show ((items.toList.drop (bU items.size 0 lo)).take (bU items.size items.size hi - bU items.size 0 lo)).toArray.size<=sizeLine
  rw[aag,abn,List.length_drop,aa9]
  lia
 have hj:bU items.size items.size hi<=items.size:=P0 _ _ (aal _) hi
 obtain⟨os,hos,hcs,hds⟩:=id hs
 have V7:s.TypeIs (.ref sl) "slice" :=⟨os,hos,hcs⟩
 unfold getItem
 try with_reducible refine aa8 ?_
 first |refine aad (aak ?_) |skip
 refine aad (wpAny_sequenceKey ht.typeIs (by decide) ?_)
 refine aad (aa5 (name:=Str.ofString "__getitem__") ht.typeIs aaW
  (abe aaW ht.typeIs entry_tuple_getitem ?_ (args_tuple_getitem _ _)))
 show wpAny _ _ (Builtin.Tuple.tupleItemsOf (.ref t) >>= _) _ _ s
 refine aad (tupleItemsOf_ ht ?_)
 refine aad (wpAny_typeOf V7 ?_)
 rw[aav (by decide)]
 refine aad (fP hs pl pu ?_)
 have hno : ¬ ((((bU items.size 0 lo:Nat):Int)==0&&(1:Int)==1&&(bU items.size items.size hi - bU items.size 0 lo)==items.size)=true):=by
  intro q
  rw[aao,aao]at q
  have q1:((bU items.size 0 lo:Nat):Int)=0:=eq_of_beq q.1.1
  have q2:bU items.size items.size hi - bU items.size 0 lo=items.size:=eq_of_beq q.2
  exact hw ⟨by lia,by lia⟩
 show wpAny _ _ (if (((bU items.size 0 lo:Nat):Int)==0&&(1:Int)==1&&(bU items.size items.size hi - bU items.size 0 lo)==items.size)=true then _ else _) _ _ s
 rw[aau hno,Ef]
 first
  |exact aad (m:=Builtin.Tuple.tupleExact _) (aaS (aak ⟨_,rfl,aak h⟩) j4)
  |exact aad (m:=Builtin.Tuple.tupleExact _) (aaS (aad (aak (aak ⟨_,rfl,aak h⟩))) j4)
  |exact aad (aad (m:=Builtin.Tuple.tupleExact _) (aaS (aak (aak ⟨_,rfl,aak h⟩)) j4))
  |exact aad (aad (m:=Builtin.Tuple.tupleExact _) (aaS (aak ⟨_,rfl,aak h⟩) j4))
end
end HT
namespace L2
abbrev TO:=St->Hp->(Option Int->Hp->Prop)->Prop
def PO(X:Cx)(e:Option Expr)(t:TO):Prop:=
 ∀(ah:List (Addr×Obj)) (s:Shared) (σ:St) (H:Hp) (Q:Option Int->Hp->Prop),Inv X ah σ H s->t σ H Q->
  wpAny (model X.prog X.w) X.A (evalPart e X.env) (λu s'=>∃o H',Inv X ah σ H' s'/\IsPart u o/\Q o H') X.xe s
noncomputable def Jy:TO:=λ_ H Q=>Q none H
noncomputable def V8(t:TE):TO:=λσ H Q=>t σ H λx H1=>∃i,x=.int i/\Q (some i) H1
theorem intsAre_of:∀{us:List Value},Vals (ns.map V.int) us->IntsAre us ns:=by
 induction ns with
 |nil=>intro us r;rw[List.map_nil]at r;cases r;exact .nil
 |cons n ns ih=>
  intro us r
  rw[List.map_cons]at r
  cases r with
  |cons r1 r2=>
   obtain⟨t,e⟩:=r1
   subst e
   exact .cons n t (ih r2)
section
variable{X:Cx}{e:Expr}{te:TE}{lo hi:Option Expr}{tl th:TO}{pos p2:Pos}
theorem Jz:PO X none Jy:=by
 intro ah s σ H Q I h
 rw[evalPart_none]
 exact aak ⟨none,H,I,.none,h⟩
theorem JB(h:PE X e te):PO X (some e) (V8 te):=by
 intro ah s σ H Q I hw
 rw[evalPart_some]
 refine bN (h ah s σ H _ I hw) λu s1 ⟨x,H1,I1,r1,q1⟩=>?_
 obtain⟨i,rfl,q⟩:=q1
 obtain⟨t,rfl⟩:=r1
 exact⟨some i,H1,I1,.int i t,q⟩
noncomputable def Yx(X:Cx)(r:V->Option Int->Option Int->Hp->VK->Prop):Prop:=
 ∀(ah:List (Addr×Obj)) (s:Shared) (σ:St) (H:Hp) (x:V) (v vl vu:Value) (lo hi:Option Int) (sl:Addr) (Q:VK),Inv X ah σ H s->RelV x v->s.heap.IsSliceOf sl vl vu .none->IsPart vl lo->IsPart vu hi->r x lo hi H Q->
  ∃T id,typeLookup (.type T) "__getitem__" = pure (some (.builtin id))/\s.TypeIs v T/\wpAny (model X.prog X.w) X.A (getItem v (.ref sl)) (EP X ah σ Q) X.xe s
noncomputable def tSl(r:V->Option Int->Option Int->Hp->VK->Prop)(te:TE)(tl th:TO):TE:=λσ H Q=>te σ H λx H1=>tl σ H1 λl H2=>th σ H2 λu H3=>r x l u H3 Q
theorem oE{r:V->Option Int->Option Int->Hp->VK->Prop}(hr:Yx X r)(he:PE X e te)(hl:PO X lo tl)(hu:PO X hi th):PE X (.Subscript e (.Slice lo hi none p2) pos) (tSl r te tl th):=by
 intro ah s σ H Q I h
 refine Subscript_ (bN (he ah s σ H _ I h) λv s1 ⟨x,H1,I1,r1,q1⟩=>?_)
 refine wpAny_Slice (bN (hl ah s1 σ H1 _ I1 q1) λvl s2 ⟨l,H2,I2,pl,q2⟩=>bN (hu ah s2 σ H2 _ I2 q2) λvu s3 ⟨u,H3,I3,pu,q3⟩=>?_)
 rw[evalPart_none]
 refine aak ?_
 have I4:Inv X ah σ H3 { s3 with heap:=s3.heap.push { cls:=.type "slice",data:=.fields #[vl,vu,.none]}}:=I3.kept (t':=s3.toks) λb ob q=>aae _ q
 obtain⟨T,id,hT,ht,hg⟩:=hr ah { s3 with heap:=s3.heap.push { cls:=.type "slice",data:=.fields #[vl,vu,.none]}} σ H3 x v vl vu l u s3⁻¹ Q I4 r1 (Heap.IsSliceOf.new ..) pl pu q3
 show wpAny (model X.prog X.w) X.A (subscriptTail e (.Slice lo hi none p2) v (.ref s3⁻¹)) (EP X ah σ Q) X.xe { s3 with heap:=s3.heap.push { cls:=.type "slice",data:=.fields #[vl,vu,.none]}}
 exact tail_any (ops:=[.ref s3⁻¹,v]) ht hT hg (by with_unfolding_all rfl)
noncomputable def sI(xs:List V)(lo hi:Option Int):List V:=(xs.drop (HT.bU xs.length 0 lo)).take (HT.bU xs.length xs.length hi - HT.bU xs.length 0 lo)
theorem mz(xs:List V)(lo hi:Option Int):(sI xs lo hi).length<=xs.length:=by
 unfold sI
 rw[abn,List.length_drop]
 lia
noncomputable def ZV(K:Frag):V->Option Int->Option Int->Hp->VK->Prop:=λx lo hi H Q=>∃a xs,x=.ref a/\iA K H a xs/\
 ¬ (HT.bU xs.length 0 lo=0/\HT.bU xs.length xs.length hi=xs.length)/\∀p,H p=none->Q (.ref p) (upd H p (.tup (sI xs lo hi)))
theorem P1:Yx X (ZV X.K):=by
 intro ah s σ H x v vl vu lo hi sl Q I rx hs pl pu h
 obtain⟨a,xs,rfl,hx,hw,q⟩:=h
 cases rx
 obtain⟨its,r,ht,hz⟩:=I.tuple hx
 have aL:its.toArray.size=xs.length:=by rw[aag];exact r.length.symm
 refine⟨"tuple",_,PyProof.Rows.slot_tuple_getitem.lookup,ht.typeIs,?_⟩
 refine HT.j3 ht hs pl pu (by rw[aL];exact hw) ?_ (by rw[aL];exact hz)
 rw[aL]
 refine⟨.ref s⁻¹,_,I.laid (t':=s.toks) (o:=.tup (sI xs lo hi)) (λb ob q=>aae _ q) (aal _) ?_,rfl,q _ (I.hok.fresh (aal _))⟩
 exact⟨aaI (mz xs lo hi) hz,_,(r.drop (HT.bU xs.length 0 lo)).take (HT.bU xs.length xs.length hi - HT.bU xs.length 0 lo),fK.new _ _⟩
noncomputable def ZW(K:Frag):R2:=λx y H Q=>∃a b ns ms,x=.ref a/\y=.ref b/\iA K H a (ns.map V.int)/\iA K H b (ms.map V.int)/\Q (.bl (HT.lexLt ns ms)) H
theorem P4(hu:X.A.units<cLine):ni X (compareOp .Lt) (ZW X.K):=by
 intro ah s σ H x y v u Q I rx ry h
 obtain⟨a,b,ns,ms,rfl,rfl,ha,hb,q⟩:=h
 cases rx
 cases ry
 obtain⟨its,r1,p1,_⟩:=I.tuple ha
 obtain⟨kO,r2,p2,_⟩:=I.tuple hb
 have i1:IntsAre its.toArray.toList ns:=intsAre_of r1
 have i2:IntsAre kO.toArray.toList ms:=intsAre_of r2
 exact HT.wY p1 p2 i1 i2 hu ⟨.bl (HT.lexLt ns ms),H,I,rfl,q⟩
noncomputable def V9(K:Frag):R2:=λx y H Q=>∃a b xs ys,x=.ref a/\y=.ref b/\iA K H a xs/\iA K H b ys/\xs≠[]/\xs.length+ys.length<=sizeLine/\
 (ys=[]->Q (.ref a) H)/\(ys≠[]->∀p,H p=none->Q (.ref p) (upd H p (.tup (xs++ys))))
theorem Vals.sJ(r:Vals xs us):us=[] ↔ xs=[]:=by
 cases r with
 |nil=>simp
 |cons _ _=>simp
theorem JC:ni X (binaryOp .Add) (V9 X.K):=by
 intro ah s σ H x y v u Q I rx ry h
 obtain⟨a,b,xs,ys,rfl,rfl,ha,hb,hx,hz,q1,q2⟩:=h
 cases rx
 cases ry
 obtain⟨its,r1,p1,_⟩:=I.tuple ha
 obtain⟨kO,r2,p2,_⟩:=I.tuple hb
 refine HT.Jx p1 p2 (λz=>hx (r1.sJ.mp z)) (λz=>⟨.ref a,H,I,rfl,q1 (r2.sJ.mp z)⟩) (λz=>?_) (by rw[<- r1.length,<- r2.length];exact hz)
 refine⟨.ref s⁻¹,_,I.laid (t':=s.toks) (o:=.tup (xs++ys)) (λb ob q=>aae _ q) (aal _) ?_,rfl,q2 (λw=>z (r2.sJ.mpr w)) _ (I.hok.fresh (aal _))⟩
 exact⟨by rw[aaw];exact hz,_,r1.append r2,fK.new _ _⟩
end
noncomputable def qo(n:Nat)(i:Int):Option Nat:=if 0<=i then (if i<n then some i.toNat else none)else if -(n:Int)<=i then some (i+n).toNat else none
noncomputable def g7{α:Type}(xs:List α)(i:Int):Option α:=(qo xs.length i).bind λj=>xs[j]?
theorem sL(h:qo n i=some j):seqIndex? i n=some j/\j<n/\-(n:Int)<=i/\i<n:=by
 unfold qo at h
 by_cases h0:0<=i
 .
  rw[aav h0]at h
  by_cases h1:i<n
  .
   rw[aav h1]at h
   have e:i.toNat=j:=aa1 h
   exact⟨by rw[seqIndex_of h0 h1,e],by lia,by lia,h1⟩
  .
   rw[aau h1]at h;cases h
 .
  rw[aau h0]at h
  by_cases h1 : -(n:Int)<=i
  .
   rw[aav h1]at h
   have e:(i+n).toNat=j:=aa1 h
   exact⟨by rw[seqIndex_neg (by lia) h1,e],by lia,h1,by lia⟩
  .
   rw[aau h1]at h;cases h
theorem yW{α:Type}{xs:List α}{i:Int}{v:α}(h:g7 xs i=some v):∃j,seqIndex? i xs.length=some j/\xs[j]?=some v/\j<xs.length/\-(xs.length:Int)<=i/\i<xs.length:=by
 unfold g7 at h
 cases e:qo xs.length i with
 |none=>rw[e]at h;cases h
 |some j=>
  rw[e]at h
  obtain⟨h1,h2,h3,h4⟩:=sL e
  exact⟨j,h1,h,h2,h3,h4⟩
def sM(b:Expr):Prop:=∀o i,subscripted b false o i=operate [o,i] (getItem o i)
noncomputable def Yy(X:Cx)(r:R2):Prop:=
 ∀(value slice:Expr) (ah:List (Addr×Obj)) (s:Shared) (σ:St) (H:Hp) (x y:V) (v u:Value) (Q:VK),Inv X ah σ H s->RelV x v->RelV y u->r x y H Q->
  subscripted slice false v u=operate [v,u] (getItem v u)->wpAny (model X.prog X.w) X.A (subscriptTail value slice v u) (EP X ah σ Q) X.xe s
noncomputable def MtR(X:Cx)(id:String)(r:V->List V->Hp->VK->Prop):Prop:=
 ∀(ah:List (Addr×Obj)) (s:Shared) (σ:St) (H:Hp) (x:V) (xs:List V) (v:Value) (us:List Value) (Q:VK),Inv X ah σ H s->RelV x v->Vals xs us->r x xs H Q->
  wpAny (model X.prog X.w) X.A (call (.builtin id) (v::us)) (EP X ah σ Q) X.xe s
section
variable{X:Cx}{a b:Expr}{ta tb:TE}{pos:Pos}
theorem Wa{r:R2}(hr:Yy X r)(ha:PE X a ta)(hb:PE X b tb)(hs:sM b):PE X (.Subscript a b pos) (Yv r ta tb):=by
 intro ah s σ H Q I h
 exact Subscript_ (Px ha hb I h λv u s2 x y H2 I2 rx ry q=>hr a b ah s2 σ H2 x y v u Q I2 rx ry q (hs _ _))
noncomputable def ZX(K:Frag):R2:=λx y H Q=>∃p xs i v,x=.ref p/\y=.int i/\cK K H p xs/\g7 xs i=some v/\Q v H
noncomputable def ZZ(K:Frag):R2:=λx y H Q=>∃p xs i v,x=.ref p/\y=.int i/\iA K H p xs/\g7 xs i=some v/\Q v H
theorem yX:Yy X (ZX X.K):=by
 intro value slice ah s σ H x y v u Q I rx ry h hs
 obtain⟨p,xs,i,z,rfl,rfl,hq,he,q⟩:=h
 cases rx
 obtain⟨t,rfl⟩:=ry
 obtain⟨its,r,pl,hz⟩:=I.list hq
 obtain⟨j,h1,h2,h3,h4,h5⟩:=yW he
 obtain⟨w,ew,rw'⟩:=r.get h2
 have hl:=r.length
 have hn:=ow
 have fin:EP X ah σ Q w s:=⟨z,H,I,rw',q⟩
 by_cases h0:0<=i
 .
  have hj:i.toNat=j:=by
   rw[seqIndex_of h0 h5]at h1
   exact aa1 h1
  exact item_listR pl.isList h0 (by lia) (by rw[hj];simpa using ew) fin hs
 .
  have hj:(i+(its.toArray.size:Int)).toNat=j:=by
   rw[seqIndex_neg (by lia) h4]at h1
   rw[aag,<- hl]
   exact aa1 h1
  exact subscriptTail_builtinR (x:=w) pl.isList.typeIs slot_list_getitem.lookup
   (wpAny_getItem_list_neg (Q:=λr s'=>r=w/\EP X ah σ Q r s') pl.isList (by lia) (by rw[aag] <;> lia) (by lia) (by rw[hj];simpa using ew) ⟨rfl,fin⟩) hs
theorem P5:Yy X (ZZ X.K):=by
 intro value slice ah s σ H x y v u Q I rx ry h hs
 obtain⟨p,xs,i,z,rfl,rfl,hq,he,q⟩:=h
 cases rx
 obtain⟨t,rfl⟩:=ry
 obtain⟨its,r,pl,hz⟩:=I.tuple hq
 obtain⟨j,h1,h2,h3,h4,h5⟩:=yW he
 obtain⟨w,ew,rw'⟩:=r.get h2
 have hl:=r.length
 have hn:=ow
 have fin:EP X ah σ Q w s:=⟨z,H,I,rw',q⟩
 exact subscriptTail_builtinR (x:=w) pl.typeIs slot_tuple_getitem.lookup
  (getItem_tuple (j:=j) (Q:=λr s'=>r=w/\EP X ah σ Q r s') pl (by lia) (by lia) (by rw[aag,<- hl];exact h1) (by simpa using ew) ⟨rfl,fin⟩) hs
theorem xq(its:List Value)(n j:Nat)(u:Value):Obj.mapSeq (·.setIfInBounds j u) { cls:=.type "list",data:=.seq its.toArray n}={ cls:=.type "list",data:=.seq (its.set j u).toArray n}:=by
 simp[Obj.mapSeq]
theorem Inv.lst{ah:List (Addr×Obj)}{σ:St}{H:Hp}{s:Shared}{p:Addr}{xs:List V}(I:Inv X ah σ H s)(h:H p=some (.lst xs)) :
  ∃(its:List Value) (n:Nat),Vals xs its/\s.heap.get? p=some { cls:=.type "list",data:=.seq its.toArray n}/\xs.length<=sizeLine:=by
 obtain⟨z,its,n,r,e⟩:=I.hok p _ h
 exact⟨its,n,r,e,z⟩
theorem Inv.P6{ah:List (Addr×Obj)}{σ:St}{H:Hp}{s:Shared}{p:Addr}{xs ys:List V}{its its':List Value}{n n':Nat}{f:Obj->Obj}(I:Inv X ah σ H s)(h:H p=some (.lst xs))
  (ho:s.heap.get? p=some { cls:=.type "list",data:=.seq its.toArray n}) (hf:f { cls:=.type "list",data:=.seq its.toArray n}={ cls:=.type "list",data:=.seq its'.toArray n'}) (r:Vals ys its') (hz:ys.length<=sizeLine) (t:Nat) :
  Inv X ah σ (upd H p (.lst ys)) { s with heap:=s.heap.update p f,toks:=t}:=by
 have e:(s.heap.update p f).get? p=some { cls:=.type "list",data:=.seq its'.toArray n'}:=by
  rw[abi f ho (by rw[hf] <;> rfl),hf]
 refine I.write (x:=p) (e:=p) (by rw[h];trivial) (.inl rfl) (λb u hb q=>(aaJ _ _ (aaX hb)).trans q) ⟨_,e⟩ ?_
 exact⟨hz,its',n',r,e⟩
noncomputable def Wc:V->V->V->Hp->(Hp->Prop)->Prop:=λo i v H Q=>∃p xs k j,o=.ref p/\i=.int k/\H p=some (.lst xs)/\qo xs.length k=some j/\Q (upd H p (.lst (xs.set j v)))
theorem set_list:VD X Wc:=by
 intro ah s σ H o i v ov iv u Q I ro ri rv h
 obtain⟨p,xs,k,j,rfl,rfl,hp,hj,q⟩:=h
 cases ro
 obtain⟨t,rfl⟩:=ri
 obtain⟨its,n,r,ho,hz⟩:=I.lst hp
 obtain⟨h1,h2,h3,h4⟩:=sL hj
 have hl:=r.length
 have hn:=ow
 have I':Inv X ah σ (upd H p (.lst (xs.set j v))) { s with heap:=s.heap.update p (Obj.mapSeq (·.setIfInBounds j u))}:=
  I.P6 hp ho (xq its n j u) (r.set rv j) (by rw[aa2];exact hz) s.toks
 by_cases h0:0<=k
 .
  have hk:k.toNat=j:=by
   rw[seqIndex_of h0 h4]at h1
   exact aa1 h1
  exact PySem.W.ki_setAt ho h0 (by lia) (by rw[aag,<- hl];exact h4) (by rw[hk];exact⟨_,I',q⟩)
 .
  have hk:(k+(its.toArray.size:Int)).toNat=j:=by
   rw[seqIndex_neg (by lia) h3]at h1
   rw[aag,<- hl]
   exact aa1 h1
  exact PySem.W.ki_setBack ho (by lia) (by rw[aag,<- hl];exact h3) (by lia) (by rw[hk];exact⟨_,I',q⟩)
theorem sN(lo hi:Option Int)(n:Nat):(sliceBounds lo hi none n).1=((HT.bU n 0 lo:Nat):Int)/\(sliceBounds lo hi none n).2.1=((HT.bU n n hi:Nat):Int)/\(sliceBounds lo hi none n).2.2=1:=by
 refine⟨?_,?_,rfl⟩
 .
  cases lo with
  |none=>simp[sliceBounds,HT.bU]
  |some i=>
   simp only[sliceBounds,HT.bU,Option.getD_none,show (1:Int) > 0 by decide,abM]
   by_cases h:i<0
   .
    simp only[h,abM] <;> lia
   .
    simp only[h,if_false] <;> lia
 .
  cases hi with
  |none=>simp[sliceBounds,HT.bU]
  |some i=>
   simp only[sliceBounds,HT.bU,Option.getD_none,show (1:Int) > 0 by decide,abM]
   by_cases h:i<0
   .
    simp only[h,abM] <;> lia
   .
    simp only[h,if_false] <;> lia
theorem qw(its:List Value)(lo hi:Option Int):slicePick its.toArray lo hi none=((its.drop (HT.bU its.length 0 lo)).take (HT.bU its.length its.length hi - HT.bU its.length 0 lo)).toArray:=by
 obtain⟨h1,h2,h3⟩:=sN lo hi its.toArray.size
 unfold slicePick
 rw[h1,h2,h3]
 simp only[sliceRange_one,pick_run,aag] <;> rfl
noncomputable def Z0(K:Frag):V->Option Int->Option Int->Hp->VK->Prop:=λx lo hi H Q=>∃a xs,x=.ref a/\cK K H a xs/\∀p,H p=none->Q (.ref p) (upd H p (.lst (sI xs lo hi)))
theorem yZ:Yx X (Z0 X.K):=by
 intro ah s σ H x v vl vu lo hi sl Q I rx hs pl pu h
 obtain⟨a,xs,rfl,hx,q⟩:=h
 cases rx
 obtain⟨its,r,ht,hz⟩:=I.list hx
 have aL:=r.length
 refine⟨"list",_,slot_list_getitem.lookup,ht.isList.typeIs,?_⟩
 refine wpAny_getItem_list_slice ht.isList hs pl pu .none (by simp) ?_ (by rw[aag] <;> lia)
 rw[qw,<- aL]
 refine⟨.ref s⁻¹,_,I.laid (t':=s.toks) (o:=.lst (sI xs lo hi)) (λb ob q=>aae _ q) (aal _) ?_,rfl,q _ (I.hok.fresh (aal _))⟩
 exact⟨aaI (mz xs lo hi) hz,_,0,(r.drop (HT.bU xs.length 0 lo)).take (HT.bU xs.length xs.length hi - HT.bU xs.length 0 lo),aaq _ rfl⟩
theorem sO:fF X (.type "list") (λxs H Q=>∃p ys,xs=[.ref p]/\(cK X.K H p ys\/iA X.K H p ys)/\∀l,H l=none->Q (.ref l) (upd H l (.lst ys))):=by
 intro ah s σ H xs us Q I r h
 obtain⟨p,ys,rfl,hq,q⟩:=h
 obtain⟨u,rfl,rx⟩:=vals1 r
 cases rx
 have fin:∀(its:List Value),Vals ys its->ys.length<=sizeLine->∀(h':Heap) (c':Nat),(∀b o',s.heap.get? b=some o'->h'.get? b=some o')->
   h'.get? s⁻¹=some { cls:=.type "list",dict:=none,data:=.seq its.toArray c',slots:=#[]}->EP X ah σ Q (.ref s⁻¹) { s with heap:=h'}:=λits r' hz h' c' kp e=>
  ⟨.ref s⁻¹,_,I.laid (t':=s.toks) kp (aal _) (show dc X.prog X.w _ h' _ (.lst ys)from⟨hz,its,c',r',e⟩),rfl,q _ (I.hok.fresh (aal _))⟩
 rcases hq with hq |hq
 .
  obtain⟨its,r',pl,hz⟩:=I.list hq
  have aL:=r'.length
  obtain⟨o,ho,hc,n,hd⟩:=pl.isList
  exact call_list_seq p (.inl rfl) ho hc hd (λh' c' kp e=>fin its r' hz h' c' kp e) (by simp only[aag] <;> lia)
 .
  obtain⟨its,r',pl,hz⟩:=I.tuple hq
  have aL:=r'.length
  obtain⟨o,ho,hc,n,hd⟩:=pl
  exact call_list_seq p (.inr rfl) ho hc hd (λh' c' kp e=>fin its r' hz h' c' kp e) (by simp only[aag] <;> lia)
theorem qz:fF X (.type "tuple") (λxs H Q=>∃p ys,xs=[.ref p]/\((cK X.K H p ys/\∀l,H l=none->Q (.ref l) (upd H l (.tup ys)))\/(iA X.K H p ys/\Q (.ref p) H))):=by
 intro ah s σ H xs us Q I r h
 obtain⟨p,ys,rfl,h⟩:=h
 obtain⟨u,rfl,rx⟩:=vals1 r
 cases rx
 rcases h with ⟨hq,q⟩ |⟨hq,q⟩
 .
  obtain⟨its,r',pl,hz⟩:=I.list hq
  have aL:=r'.length
  refine call_tuple_list pl.isList (λh' kp=>?_) (by simp only[aag] <;> lia)
  have I1:Inv X ah σ H { s with heap:=h'}:=I.kept (t':=s.toks) kp
  have I2:Inv X ah σ (upd H h'.objs.size (.tup ys)) { s with heap:=h'.push { cls:=.type "tuple",data:=.seq its.toArray}}:=
   I1.laid (t':=s.toks) (λb o e=>aae _ e) (aal _) (show dc X.prog X.w _ _ _ (.tup ys)from⟨hz,its,r',fK.new _ _⟩)
  exact⟨.ref h'.objs.size,_,I2,rfl,q _ (I1.hok.fresh (aal _))⟩
 .
  obtain⟨its,r',pl,hz⟩:=I.tuple hq
  exact call_tuple_same pl ⟨.ref p,H,I,rfl,q⟩
noncomputable def tyV(K:Frag)(T:String)(x:V)(H:Hp):Prop:=match x with
 |.str _=>T = "str"
 |.int _=>T = "int"
 |.ref p=>(T = "list" /\∃xs,cK K H p xs)\/(T = "tuple" /\∃o,K.lookup p=some o/\o.cls=.type "tuple" /\o.dict=none)\/
   (T = "dict" /\((∃jz,H p=some (.dK jz))\/∃jz,H p=some (.dT jz)))\/(T = "set" /\∃S n,H p=some (.set S n))
 |_=>False
theorem P7{ah:List (Addr×Obj)}{σ:St}{H:Hp}{s:Shared}{T:String}{x:V}{v:Value}(I:Inv X ah σ H s)(r:RelV x v)(ty:tyV X.K T x H) :
  s.TypeIs v T/\∀a,v=.ref a->∃ob,s.heap.get? a=some ob/\ob.dict=none:=by
 cases x with
 |str z=>
  obtain⟨t,rfl⟩:=r
  cases (show T = "str" from ty)
  exact⟨typeIs_str s z t,λ_ e=>nomatch e⟩
 |int i=>
  obtain⟨t,rfl⟩:=r
  cases (show T = "int" from ty)
  exact⟨typeIs_int s i t,λ_ e=>nomatch e⟩
 |ref p=>
  cases r
  rcases ty with ⟨rfl,xs,hq⟩ |⟨rfl,o,hk,hc,hd⟩ |⟨rfl,hk⟩ |⟨rfl,S,n,hk⟩
  .
   obtain⟨its,_,pl,_⟩:=I.list hq
   refine⟨pl.isList.typeIs,λa e=>?_⟩
   cases e
   obtain⟨o,n,e,c,hd,_⟩:=pl
   exact⟨o,e,hd⟩
  .
   refine⟨⟨o,I.nh p o hk,hc⟩,λa e=>?_⟩
   cases e
   exact⟨o,I.nh _ o hk,hd⟩
  .
   have z:∃o,s.heap.get? p=some o/\o.ExactDict:=by
    rcases hk with ⟨jz,hk⟩ |⟨jz,hk⟩
    .
     obtain⟨_,_,_,_,o,_,_,e,ex,_⟩:=I.hok p _ hk
     exact⟨o,e,ex⟩
    .
     obtain⟨_,_,_,_,o,_,_,e,ex,_⟩:=I.hok p _ hk
     exact⟨o,e,ex⟩
   obtain⟨o,e,ex⟩:=z
   refine⟨⟨o,e,ex.1⟩,λa e2=>?_⟩
   cases e2
   exact⟨o,e,ex.2.1⟩
  .
   obtain⟨o,_,_,_,e,ex,_⟩:=I.hok p _ hk
   refine⟨⟨o,e,ex.1⟩,λa e2=>?_⟩
   cases e2
   exact⟨o,e,ex.2.1⟩
 |_=>exact False.elim ty
noncomputable def tBM(K:Frag)(T:String)(r:V->List V->Hp->VK->Prop)(to:TE)(t:TA):TE:=λσ H Q=>to σ H λx H1=>tyV K T x H1/\t σ H1 λxs H2=>r x xs H2 Q
variable{o e:Expr}{es:List Expr}{to:TE}{t:TA}{name:Str}{aQ aG:Pos}{T id:String}{r:V->List V->Hp->VK->Prop}
theorem y9(pa:PlainAttrs T)(slot:Slot T name id)(hty:typeOf (.builtin id)=pure (.type "method_descriptor"))(hm:MtR X id r)(ho:PE X o to)(ha:PA X (e::es) t)
  (hbase:attributeBase o name X.env (eval o X.env)=eval o X.env:=by rfl)
  (hfew:((backTo aG (starEach (e::es) X.env)).all (λx=>!x.1)&&(backToKw aG (keywordEach [] X.env)).all (λx=>x.1.isSome)
   && decide ((e::es).length+([]:List Keyword).length+(if ([]:List Keyword).isEmpty then 0 else 1)<30))=true:=by rfl)
  (hline:(aQ.endLine==aG.line)=true:=by rfl) (hs:starEach (e::es) X.env=(false,eval e X.env)::starEach es X.env:=by rfl) (hplain:(backTo aG (starEach es X.env)).any (·.1)=false:=by rfl) :
  PE X (.Call (.Attribute o name aQ) (e::es) [] aG) (tBM X.K T r to t):=by
 intro ah s σ H Q I h
 refine wpAny_Call_method_late hbase hfew hline rfl (bN (ho ah s σ H _ I h) λv s1 ⟨x,H1,I1,r1,ty,q1⟩=>?_)
 obtain⟨h1,h2⟩:=P7 I1 r1 ty
 refine⟨T,id,pa,slot,hty,h1,h2,?_⟩
 have hA:=ha aG ah s1 σ H1 _ I1 q1
 rw[hs]at hA ⊢
 refine Calls.callWith_builtin (by show (false||(backTo aG (starEach es X.env)).any (·.1))=false;rw[hplain] <;> rfl) (Calls.evalArgs_plain ?_)
 exact bN hA λus s2 ⟨vs,H2,I2,r2,q2⟩=>hm ah s2 σ H2 x vs v us Q I2 r1 r2 q2
/- xs.append(e),list.index on a module's tuple .. are MtR facts of 06m -/
end
noncomputable def Z1(X:Cx)(id:String)(r:V->List V->Hp->VK->Prop):Prop:=
 ∀(ah:List (Addr×Obj)) (s:Shared) (σ:St) (H:Hp) (x:V) (xs:List V) (v:Value) (us:List Value) (Q:VK),Inv X ah σ H s->RelV x v->Vals xs us->r x xs H Q->
  wpAny (model X.prog X.w) X.A (call (.builtin id) (v::us)) (EP X ah σ Q) X.xe s
theorem Vals.one:∀{x:V}{us:List Value},Vals [x] us->∃u,us=[u]/\RelV x u
 |_,_,.cons r .nil=>⟨_,rfl,r⟩
theorem Vals.eraseIdx:∀{xs:List V}{us:List Value} (i:Nat),Vals xs us->Vals (xs.eraseIdx i) (us.eraseIdx i)
 |_,_,_,.nil=>.nil
 |_,_,0,.cons _ t=>t
 |_,_,i+1,.cons r t=>.cons r (Vals.eraseIdx i t)
theorem Vals.reverse{xs:List V}{us:List Value}(h:Vals xs us):Vals xs.reverse us.reverse:=by
 induction h with
 |nil=>exact .nil
 |cons r t ih=>rw[aci,aci];exact Vals.append ih (.cons r .nil)
theorem Vals.rep(h:Vals xs us):∀k:Nat,Vals (List.replicate k xs).flatten (List.replicate k us).flatten
 | 0=>.nil
 |k+1=>by
  rw[aa3,aa3,abJ,abJ]
  exact Vals.append h (Vals.rep h k)
theorem qY{α:Type}:∀(l:List α) (i:Nat),(l.eraseIdx i).length<=l.length
 | [],_=>aal _
 |_::_,0=>acj _
 |_::r,i+1=>Nat.succ_le_succ (qY r i)
theorem foldl_rep(its:List Value):∀(k:Nat) (acc:List Value),
  List.foldl (λx1 x2=>x1++x2) acc.toArray (List.replicate k its.toArray)=(acc++(List.replicate k its).flatten).toArray
 | 0,acc=>by simp
 |k+1,acc=>by
  have e:acc.toArray++its.toArray=(acc++its).toArray:=by simp
  have e2:(acc++its)++(List.replicate k its).flatten=acc++(List.replicate (k+1) its).flatten:=by
   rw[aa3,abJ,ack]
  rw[<- e2,<- foldl_rep its k (acc++its),<- e,aa3,List.foldl_cons]
section
variable{X:Cx}{ah:List (Addr×Obj)}{σ:St}{H:Hp}{s:Shared}{l b:Addr}{xs ys zs:List V}
theorem Inv.P8{its its':List Value}{n:Nat}{f:Array Value->Array Value}{t':Nat}(I:Inv X ah σ H s)(hH:H l=some (.lst xs))
  (e:s.heap.get? l=some { cls:=.type "list",data:=.seq its.toArray n}) (hf:f its.toArray=its'.toArray) (hv:Vals ys its') (hz:ys.length<=sizeLine) :
  Inv X ah σ (upd H l (.lst ys)) { s with heap:=s.heap.update l (Obj.mapSeq f),toks:=t'}:=by
 have q:=PySem.IsL.update e f
 rw[hf]at q
 refine I.write (x:=l) (e:=l) (by rw[hH];exact trivial) (.inl rfl) (λb' u hb hu=>(aaJ s.heap (Obj.mapSeq f) (aaX hb)).trans hu) ⟨_,q⟩ ?_
 exact⟨hz,its',_,hv,q⟩
theorem Inv.Wd(I:Inv X ah σ H s)(hv:Vals ys its)(hz:ys.length<=sizeLine) :
  Inv X ah σ (upd H s⁻¹ (.lst ys)) { s with heap:=s.heap.push { cls:=.type "list",data:=.seq its.toArray},toks:=t'}:=
 I.laid (λ_ _ q=>aae _ q) (aal _) ⟨hz,its,0,hv,aaq _ rfl⟩
theorem Inv.fresh(I:Inv X ah σ H s):H s⁻¹=none:=I.hok.fresh (aal _)
theorem Inv.xu(I:Inv X ah σ H s)(hH:H l=some (.lst xs)):xs.length<=sizeLine/\∃(its:List Value) (n:Nat),Vals xs its/\xs.length=its.length/\s.heap.get? l=some { cls:=.type "list",data:=.seq its.toArray n}:=by
 obtain⟨z,its,n,r,e⟩:=I.hok l _ hH
 exact⟨z,its,n,r,r.length,e⟩
theorem uK(h:n<=sizeLine):Builtin.List.listTooLong n=false:=by
 unfold Builtin.List.listTooLong
 exact abh (by lia)
end
section
variable{X:Cx}
noncomputable def JD:V->List V->Hp->VK->Prop:=λx vs H Q=>∃l xs y,x=.ref l/\vs=[y]/\H l=some (.lst xs)/\xs.length<sizeLine/\Q .non (upd H l (.lst (xs++[y])))
theorem kZ:Z1 X "list.append" JD:=by
 intro ah s σ H x vs v us Q I rx rv h
 obtain⟨l,xs,y,rfl,rfl,hH,hz,q⟩:=h
 cases rx
 obtain⟨u,rfl,ru⟩:=rv.one
 obtain⟨z,its,n,r,hl,e⟩:=I.xu hH
 refine acm F.slot_list_append ⟨_,e,rfl⟩ F.entry_list_append (F.args_list_append_2 _ _) (PySem.list_append l its.toArray n u (by rw[aag];lia)) ⟨e,?_⟩
 refine⟨.non,_,I.P8 (its':=its++[u]) hH e (by simp) (r.append (.cons ru .nil)) ?_,rfl,q⟩
 rw[aaw,abz]
 lia
noncomputable def JF:V->List V->Hp->VK->Prop:=λx vs H Q=>∃l b xs zs,x=.ref l/\vs=[.ref b]/\H l=some (.lst xs)/\H b=some (.lst zs)/\xs.length+zs.length<=sizeLine/\Q .non (upd H l (.lst (xs++zs)))
theorem Ao:Z1 X "list.extend" JF:=by
 intro ah s σ H x vs v us Q I rx rv h
 obtain⟨l,b,xs,zs,rfl,rfl,hH,hB,hz,q⟩:=h
 cases rx
 obtain⟨u,rfl,ru⟩:=rv.one
 cases ru
 obtain⟨z,its,n,r,hl,e⟩:=I.xu hH
 obtain⟨z2,kO,n2,r2,hl2,e2⟩:=I.xu hB
 have jS:its.toArray.size+kO.toArray.size<=sizeLine:=by rw[aag,aag];lia
 have Eg : ¬ (!its.toArray.isEmpty&&Builtin.List.listTooLong (its.toArray.size+kO.toArray.size))=true:=by
  rw[uK jS,Bool.and_false]
  exact aaF
 refine acm F.slot_list_extend ⟨_,e,rfl⟩ F.entry_list_extend (F.args_list_extend_2 _ _)
  (AutoSeq1.list_extend_list_list_0 l its.toArray n b kO.toArray n2 Eg (by rw[aag];lia) (by lia)) ⟨e,e2,?_⟩
 refine⟨.non,_,I.P8 (its':=its++kO) hH e (by simp) (r.append r2) ?_,rfl,q⟩
 rw[aaw]
 lia
noncomputable def P9:V->List V->Hp->VK->Prop:=λx vs H Q=>∃l xs i k y,x=.ref l/\vs=[.int i]/\H l=some (.lst xs)/\-(2 ^ 63)<=i/\i<2 ^ 63/\seqIndex? i xs.length=some k/\xs[k]?=some y/\Q y (upd H l (.lst (xs.eraseIdx k)))
theorem Eh:Z1 X "list.pop" P9:=by
 intro ah s σ H x vs v us Q I rx rv h
 obtain⟨l,xs,i,k,y,rfl,rfl,hH,h1,h2,hk,hy,q⟩:=h
 cases rx
 obtain⟨u,rfl,ru⟩:=rv.one
 obtain⟨t,rfl⟩:=ru
 obtain⟨z,its,n,r,hl,e⟩:=I.xu hH
 obtain⟨w,hw,rw'⟩:=r.get hy
 refine acm F.slot_list_pop ⟨_,e,rfl⟩ F.entry_list_pop (F.args_list_pop_2 _ _)
  (MeetsSeq.list_pop_at l its.toArray n i t k w (fitsIndex_both h1 h2) (by rw[aag,<- hl];exact hk) (by rw[<- Array.getElem?_toList];exact hw) (by rw[aag];lia)) ⟨e,?_⟩
 refine⟨y,_,I.P8 (its':=its.eraseIdx k) hH e ?_ (r.eraseIdx k) ?_,rw',q⟩
 .
  show its.toArray.eraseIdxIfInBounds k=(its.eraseIdx k).toArray
  rw[List.eraseIdxIfInBounds_toArray]
 .
  have:=qY xs k
  lia
noncomputable def Z2:R2:=λx y H Q=>∃l b xs zs,x=.ref l/\y=.ref b/\H l=some (.lst xs)/\H b=some (.lst zs)/\xs.length+zs.length<=sizeLine/\∀p,H p=none->Q (.ref p) (upd H p (.lst (xs++zs)))
theorem Qa:ni X (binaryOp .Add) Z2:=by
 intro ah s σ H x y v u Q I rx ry h
 obtain⟨l,b,xs,zs,rfl,rfl,hH,hB,hz,q⟩:=h
 cases rx
 cases ry
 obtain⟨z,its,n,r,hl,e⟩:=I.xu hH
 obtain⟨z2,kO,n2,r2,hl2,e2⟩:=I.xu hB
 refine PySem.P.add_list e e2 ?_ (by rw[aag,aag];lia)
 have ea:its.toArray++kO.toArray=(its++kO).toArray:=by simp
 rw[ea]
 exact⟨.ref _,_,I.Wd (t':=s.toks) (r.append r2) (by rw[aaw];lia),rfl,q _ I.fresh⟩
noncomputable def Z3:R2:=λx y H Q=>∃l k xs,x=.ref l/\y=.int k/\H l=some (.lst xs)/\-(2 ^ 63)<=k/\k<2 ^ 63/\xs.length * k.toNat<=sizeLine/\
 ∀p,H p=none->Q (.ref p) (upd H p (.lst (List.replicate k.toNat xs).flatten))
theorem len_rep{α:Type}(xs:List α)(k:Nat):(List.replicate k xs).flatten.length=k * xs.length:=by
 induction k with
 |zero=>simp
 |succ k ih=>rw[aa3,abJ,aaw,ih,Nat.succ_mul,Nat.add_comm]
theorem Qc:ni X (binaryOp .Mult) Z3:=by
 intro ah s σ H x y v u Q I rx ry h
 obtain⟨l,k,xs,rfl,rfl,hH,h1,h2,hz,q⟩:=h
 cases rx
 obtain⟨t,rfl⟩:=ry
 obtain⟨z,its,n,r,hl,e⟩:=I.xu hH
 have aL:its.toArray.size * k.toNat<=sizeLine:=by rw[aag,<- hl];exact hz
 have hcap : ¬ its.toArray.size * k.toNat > (2 ^ 63 - 1) / 8:=by
  have:(sizeLine:Nat)<=(2 ^ 63 - 1) / 8:=by decide
  lia
 have hfit : ¬ (!Builtin.List.listFitsIndex k)=true:=by
  rw[fitsIndex_both h1 h2]
  exact aaF
 have Eg : ¬ Builtin.List.listTooLong (its.toArray.size * k.toNat)=true:=by
  rw[uK aL]
  exact aaF
 have hnew:List.foldl (λx1 x2=>x1++x2) #[] (List.replicate (if its.toArray.isEmpty=true then 0 else k.toNat) its.toArray)=(List.replicate k.toNat its).flatten.toArray:=by
  have f0:∀m:Nat,List.foldl (λx1 x2=>x1++x2) #[] (List.replicate m its.toArray)=(List.replicate m its).flatten.toArray:=λm=>by
   have:=foldl_rep its m []
   rw[abT]at this
   exact this
  rw[f0]
  cases its with
  |nil=>simp
  |cons a r'=>rw[aau (by simp)]
 refine wpAny_binaryOp_repeat_ref (T:= "list") (U:= "int") (by decide) ⟨_,e,rfl⟩ (λs'=>typeIs_int s' k t) noFill_list_mul F.fills_int_mul F.slot_int_rmul repeat_list F.slot_int_index.lookup
  (acm F.slot_int_rmul (typeIs_int s k t) F.entry_int_rmul (F.args_int_rmul_2 _ _) (int___rmul___int_list k t l its.toArray n)
   ⟨e,rfl,⟨_,e,rfl⟩,acm F.slot_list_mul ⟨_,e,rfl⟩ F.entry_list_mul (F.args_list_mul_2 _ _) (AutoListH.list___mul___list_int_3 l its.toArray n k t hfit hcap Eg) ⟨e,?_⟩⟩)
 rw[hnew]
 exact⟨.ref _,_,I.Wd (t':=s.toks) (r.rep k.toNat) (by rw[len_rep,Nat.mul_comm];exact hz),rfl,q _ I.fresh⟩
end
section
variable{prog:Program}{w:World}{A:Around}{E:Value->Shared->Prop}{s:Shared}
end
section
variable{X:Cx}
end
end L2
namespace Att
open PySem PySem.W PySem.Calls PyProof.Rows
theorem nj:∀(ns:List Int) (vs:List Value),WellAll P h vs (ns.map WData.int)->IntsAre vs ns:=by
 intro ns
 induction ns with
 |nil=>
  intro vs w
  rw[List.map_nil]at w
  cases w
  exact .nil
 |cons n ns ih=>
  intro vs w
  rw[List.map_cons]at w
  cases w with
  |cons a b=>
   cases a
   exact .cons _ _ (ih _ b)
theorem Aq{l:OpenLaw}{n:Nat}(hn:l.most=some n){P:Params}{h:Heap}{args:List WData}{vals:List Value}
  (hpre:l.row.toRowW.claim.pre args=true) (hwl:WellAll P h vals args) :
  ∃a vs ns,vals=[Value.ref a]/\args=[WData.list (ns.map WData.int)]/\h.get? a=some { cls:=.type "list",data:=.seq vs.toArray}/\IntsAre vs ns/\ns.length<=n:=by
 have hsh:WShape.hasAll [] args [.list .int]=true:=(pre_splitW hpre).1
 have hc:l.pre.holds [] { args:=args}=true:=(pre_splitW hpre).2
 obtain⟨d,r,rfl,h1,h2⟩:=hasAllW_cons hsh
 obtain rfl:=hasAllW_nil h2
 obtain⟨xs,rfl,h3⟩:=hasW_list h1
 obtain⟨ns,rfl⟩:=items_int h3
 have aL:ns.length<=n:=by
  unfold OpenLaw.pre at hc
  have h4:(WTm.not (.lt (.lit (.int (n:Int))) (.len (.arg 0)))).holds [] { args:=[.list (ns.map .int)]}=true:=by
   have h4:=(holds_andW hc).1
   rw[hn]at h4
   exact h4
  have h5:=condW_of h4 (w_not (w_lt w_lit (w_len_list (w_arg rfl))))
  rw[aaA]at h5
  refine Nat.le_of_not_lt λq=>?_
  have q':(n:Int)<((ns.length:Nat):Int):=by lia
  first
   | (rw[abP q']at h5;exact absurd h5 (by decide))
   | (simp at h5;lia)
 cases hwl with
 |cons w1 w2=>
  cases w2
  cases w1 with
  |list ho hall=>exact⟨_,_,ns,rfl,rfl,ho,nj ns _ hall,aL⟩
theorem Ar(l:OpenLaw)(args:List WData):l.row.toRowW.claim.post args (.bool true) args=true:=
 postW_of (r:=l.row.toRowW) (X:=(true==true))
  (show WShape.has [] (.bool true) .bool=true by first |rfl |decide |simp[WShape.has,WShape.arms,WShape.armsAll])
  (show (WTm.eq .res (.lit (.bool true))).value [] { args:=args,res:=some (.bool true),after:=args}=some (.bool (true==true))from w_eq_bool (w_res rfl) w_lit) rfl
theorem uL{l:OpenLaw}{n:Nat}{q:Program}{loose:List Str}{XP:(Str->Option Value)->Heap->Prop}{YP:World->Heap->Prop}{d:DefRec}
  (hn:l.most=some n) (iQ:d.params.defaults=[])
  (call:∀(w:World) (s₀ s₁:Shared) (mg mb:Str->Option Value) (fa:Addr) (o:Obj) (pm cd doc:Value) (a:Addr) (vs:List Value) (ns:List Int),
   Ground q loose [] XP w s₀ mg mb s₁.heap->YP w s₁.heap->
   s₁.heap.get? fa=some o->o.data=.func (docDef d.name d.params d.body d.scope pm cd doc)->s₁.heap.CodeRec cd d.name->mg d.name=some (.ref fa)->
   s₁.heap.get? a=some { cls:=.type "list",data:=.seq vs.toArray}->IntsAre vs ns->ns.length<=n->s₁.gens = #[]->
   codeAny (model l.prog w) callerA (.call (.ref fa) ⟨[.ref a],[]⟩) (λr s'=>r=.ok (.ret (.bool true))/\OldK s₁.heap s'.heap/\s'.os=s₁.os/\AllBare s'.gens) s₁) :
  WalkO q loose XP YP l.row.toRowW d [] (λf vs=>PySem.call f vs):=by
 intro w s₀ s₁ mg mb G Y fa o pm cd doc dV kV ho hd bD hD hmg hg args vals as hpre hlay hrd hwl hlo
 obtain rfl:dV=.none:=Dflts.none hD iQ
 obtain rfl:kV=.none:=Dflts.noKw hD
 obtain⟨a,vs,ns,rfl,rfl,hobj,hints,aL⟩:=Aq hn hpre hwl
 refine enter_call (acr (call w s₀ s₁ mg mb fa o pm cd doc a vs ns G Y ho (fd_plain hd) bD hmg hobj hints aL hg) λr s' hq=>?_)
 obtain⟨rfl,h2,h3,h4⟩:=hq
 exact⟨.inl ⟨.bool true,.bool true,[],rfl,λ_=>rfl,.bool true,Ar l _,λ_=>⟨List.Pairwise.nil,λ_ hm=>(nomatch hm)⟩⟩,h2,h3,h4⟩
section
variable{prog:Program}{w:World}{A:Around}{E:Value->Shared->Prop}{s:Shared}{K:Frag}
end
end Att
namespace L2
theorem k9:∀{vs:List Value}{ns:List Int},IntsAre vs ns->Vals (ns.map V.int) vs
 |_,_,.nil=>.nil
 |_,_,.cons n t h=>.cons ⟨t,rfl⟩ (k9 h)
abbrev KOf{K:Frag}{h:Heap}(_:K.In h):Frag:=K
noncomputable abbrev uB:Al:=λ_ _ _ _ _ _=>False
noncomputable abbrev E0:XK:=λ_ _ _=>False
theorem NT:Passes uB X E0:=λ_ _ _ _ _ _ _ h=>h.elim
structure Jd(K:Frag)(x qual:Str)(st:Stmt)(f:Addr)(fd:FuncData):Prop where
 ex:∃(oc:Value) (od:Option Addr) (kV doc pm:Value) (an:Option Addr) (bB ct:Value) (osl:Array (Option Value)),
  fd=PySem.W.fnOf x qual (iR st) (cD st) (aD st) .none kV doc pm an bB ct/\K.lookup f=some ⟨oc,od,.func fd,osl⟩/\PySem.W.codeIn K bB qual=true
 kp:PySem.W.keepIn K (.ref f)=true
section
variable{P:Program}{w:World}{K:Frag}{mg:Str->Option Value}{base:Heap}
theorem Qd{x qual:Str}{st:Stmt}{f:Addr}{oc:Value}{od an:Option Addr}{osl:Array (Option Value)}{kV doc pm bB ct:Value}(l:K.lookup f=some ⟨oc,od,.func (PySem.W.fnOf x qual (iR st) (cD st) (aD st) .none kV doc pm an bB ct),osl⟩)
  (c:PySem.W.codeIn K bB qual=true) (k:PySem.W.keepIn K (.ref f)=true):Jd K x qual st f (PySem.W.fnOf x qual (iR st) (cD st) (aD st) .none kV doc pm an bB ct):=⟨⟨oc,od,kV,doc,pm,an,bB,ct,osl,rfl,l,c⟩,k⟩
end
section
variable{X:Cx}
end
theorem qA{A B:Prop}(h:B):if false=true then A else B:=by
 rw[aau aaF]
 exact h
theorem lg{A B:Prop}(h:A):if true=true then A else B:=by
 rw[aav rfl]
 exact h
noncomputable def Cx.block(X:Cx)(N:List Str)(scope:Scope)(cl:List (Str×Addr))(C:Addr)(s₀:Shared)(H₀:Hp)(fp:List Addr):Cx:=
 { X with N:=N,s₀:=s₀,H₀:=H₀,env:=compEnvC scope cl C X.env,outer:=X.stack,ex:=fp,fn:=λx=>scope.names.lookup x==some .local,pn:=[],xe:=λ_ _=>False}
structure Bk where
 cl:List (Str×Addr)
 C:Addr
 s₀:Shared
 H₀:Hp
 fp:List Addr
noncomputable abbrev Cx.blk (X:Cx) (N:List Str) (scope:Scope) (b:Bk):Cx:=X.block N scope b.cl b.C b.s₀ b.H₀ b.fp
structure aX(sc scope:Scope):Prop where
 kind:scope.kind=.function
 sP:∀y∈scope.names,y.2≠.cell
 uniq:∀y∈scope.names,y.2=.local->scope.names.lookup y.1=some .local
 Wf:∀y∈scope.names,y.2=.free->scope.names.lookup y.1=some .free
 free:∀y∈scope.names,y.2=.free->sc.names.lookup y.1=some .cell\/sc.names.lookup y.1=some .free
theorem mem_of_lookup{α:Type}{x:Str}{v:α}:∀{l:List (Str×α)},l.lookup x=some v->(x,v)∈l
 | [],h=>by simp at h
 | (n,k)::r,h=>by
  cases hx:x==n with
  |true=>
   simp only[aa4,hx]at h
   cases h
   have e:x=n:=by simpa using hx
   subst e
   exact aah
  |false=>
   simp only[aa4,hx]at h
   exact aaf _ (mem_of_lookup h)
theorem iC{env:Env}{x:Str}:∀{names:List (Str×NameKind)},
  (names.map λ(n,k)=>if (k==NameKind.free&&env.scope.kind==.function&&env.kindOf n==some .cell)then (n,NameKind.cell)else (n,k)).lookup x
   = (names.lookup x).map λk=>if (k==NameKind.free&&env.scope.kind==.function&&env.kindOf x==some .cell)then NameKind.cell else k
 | []=>rfl
 | (n,k)::r=>by
  have ih:=@iC env x r
  show List.lookup x ((if (k==NameKind.free&&env.scope.kind==.function&&env.kindOf n==some .cell)=true then (n,NameKind.cell)else (n,k))::_)=_
  cases hx:x==n with
  |true=>
   have e:x=n:=by simpa using hx
   subst e
   by_cases hc:(k==NameKind.free&&env.scope.kind==.function&&env.kindOf x==some .cell)=true
   .
    rw[aav hc];simp only[aa4,hx,acN,aav hc]
   .
    rw[aau hc];simp only[aa4,hx,acN,aau hc]
  |false=>
   by_cases hc:(k==NameKind.free&&env.scope.kind==.function&&env.kindOf n==some .cell)=true
   .
    rw[aav hc];simp only[aa4,hx];exact ih
   .
    rw[aau hc];simp only[aa4,hx];exact ih
theorem oF(h:∀y∈scope.names,y.2=.free->∃c,env.cells.lookup y.1=some c) :
  ∃cl,closureFor scope env=pure cl/\(∀x c,cl.lookup x=some c->env.cells.lookup x=some c/\(x,NameKind.free)∈scope.names)/\∀y∈scope.names,y.2=.free->∃c,cl.lookup y.1=some c:=by
 have key:∀(names:List (Str×NameKind)) (acc:List (Str×Addr)),(∀y∈names,y.2=.free->∃c,env.cells.lookup y.1=some c)->
   ∃cl,(forIn names acc λ(x:Str×NameKind) (cs:List (Str×Addr))=>(match x with | (name,kind)=>if (kind==.free)=true then (do let c <- cellOf env name;pure (ForInStep.yield ((name,c)::cs)))else pure (ForInStep.yield cs):Sem (ForInStep (List (Str×Addr)))))=pure cl/\
    (∀x c,cl.lookup x=some c->acc.lookup x=some c\/(env.cells.lookup x=some c/\(x,NameKind.free)∈names))/\(∀y∈names,y.2=.free->∃c,cl.lookup y.1=some c)/\∀x c,acc.lookup x=some c->∃c',cl.lookup x=some c':=by
  intro names
  induction names with
  |nil=>intro acc _;exact⟨acc,rfl,λx c e=>.inl e,(λy hy=>nomatch hy),λx c e=>⟨c,e⟩⟩
  |cons y r ih=>
   intro acc hf
   obtain⟨n,k⟩:=y
   rw[List.forIn_cons]
   by_cases hk:(k==NameKind.free)=true
   .
    obtain⟨c,hc⟩:=hf (n,k) aah (by simpa using hk)
    have hc':env.cells.lookup n=some c:=hc
    obtain⟨cl,e,h1,h2,h3⟩:=ih ((n,c)::acc) λy hy=>hf y (aaf _ hy)
    refine⟨cl,?_,λx c' q=>?_,λy hy Yz=>?_,λx c' q=>?_⟩
    .
     have ec:cellOf env n=pure c:=by unfold cellOf;rw[hc']
     show ((if (k==NameKind.free)=true then (do let c <- cellOf env n;pure (ForInStep.yield ((n,c)::acc)))else pure (ForInStep.yield acc)) >>= _)=_
     rw[aav hk,ec]
     exact e
    .
     rcases h1 x c' q with z |⟨z1,z2⟩
     .
      cases hx:x==n with
      |true=>
       simp only[aa4,hx]at z
       cases z
       have e:x=n:=by simpa using hx
       subst e
       have ek:k=NameKind.free:=by simpa using hk
       subst ek
       exact .inr ⟨hc',aah⟩
      |false=>simp only[aa4,hx]at z;exact .inl z
     .
      exact .inr ⟨z1,aaf _ z2⟩
    .
     rcases aaj.mp hy with rfl |hy
     .
      exact h3 n c (by simp)
     .
      exact h2 y hy Yz
    .
     cases hx:x==n with
     |true=>
      have e:x=n:=by simpa using hx
      subst e
      exact h3 x c (by simp)
     |false=>exact h3 x c' (by simp only[aa4,hx];exact q)
   .
    obtain⟨cl,e,h1,h2,h3⟩:=ih acc λy hy=>hf y (aaf _ hy)
    refine⟨cl,?_,λx c' q=>?_,λy hy Yz=>?_,h3⟩
    .
     show ((if (k==NameKind.free)=true then (do let c <- cellOf env n;pure (ForInStep.yield ((n,c)::acc)))else pure (ForInStep.yield acc)) >>= _)=_
     rw[aau hk]
     exact e
    .
     rcases h1 x c' q with z |⟨z1,z2⟩
     .
      exact .inl z
     .
      exact .inr ⟨z1,aaf _ z2⟩
    .
     rcases aaj.mp hy with rfl |hy
     .
      exact absurd Yz (by simpa using hk)
     .
      exact h2 y hy Yz
 obtain⟨cl,e,h1,h2,_⟩:=key scope.names [] h
 refine⟨cl,?_,λx c q=>?_,h2⟩
 .
  exact (congrArg (λ(m:Sem (List (Str×Addr)))=>m >>= λcs=>pure cs) e:_)
 .
  rcases h1 x c q with z |z
  .
   simp at z
  .
   exact z
def uM(X:Cx)(ifs:List Expr)(t:TT):Prop:=
 ∀(ah:List (Addr×Obj)) (s:Shared) (σ:St) (H:Hp) (Q:Bool->Hp->Prop),Inv X ah σ H s->t σ H Q->
  wpAny (model X.prog X.w) X.A (forIn ifs true λc r=>if r=true then do let ok <- isTrue c X.env (eval c X.env);pure (ForInStep.yield ok)else pure (ForInStep.yield r)) (TP X ah σ Q) X.xe s
noncomputable def NX:TT:=λ_ H Q=>Q true H
theorem uN:uM X [] NX:=λ_ _ _ H _ I h=>wpAny_tests_nil ⟨H,I,h⟩
theorem Ei(h:PT X c t):uM X [c] t:=λah s σ H Q I hw=>wpAny_tests_one (h ah s σ H Q I hw)
noncomputable def Ej(e target iter:Expr)(ifs:List Expr)(d:Nat)(it acc:Value)(env:Env)(em:Sem Unit):Sem Fin:=do
 standAt iter.pos
 match <- pyNext it with
 |none=>pure (.done .next)
 |some v=>
  letOwnedTupleGo target it v
  assign target env v
  let mut ok:=true
  for c in ifs do
   if ok then ok <- isTrue c env (eval c env)
  if ok then em
  again (.compLoop e d it acc env)
theorem sQ(ht:compTurn (.ListComp dI gens scope pos) d it acc env=Ej (.ListComp dI gens scope pos) target iter ifs d it acc env em)(I:Nat->Shared->Prop)
  (turn:∀n s,I n s->wpAny (model prog w) A (pyNext it) (λr s₁=>match r with
   |none=>R (.ok .next) s₁
   |some v=>wpAny (model prog w) A (letOwnedTupleGo target it v) (λ_ s₁'=>wpAny (model prog w) A (assign target env v) (λ_ s₂=>
     wpAny (model prog w) A (forIn ifs true λc r=>if r=true then do let ok <- isTrue c env (eval c env);pure (ForInStep.yield ok)else pure (ForInStep.yield r)) (λok s₃=>
      if ok=true then wpAny (model prog w) A em (λ_ s₅=>∃m,m<n/\I m s₅) (λ_ _=>False) s₃
      else ∃m,m<n/\I m s₃) (λ_ _=>False) s₂) (λ_ _=>False) s₁') (λ_ _=>False) s₁) (λ_ _=>False) s)
  (n:Nat) (h:I n s) :
  codeAny (model prog w) A (.compLoop (.ListComp dI gens scope pos) d it acc env) R s:=by
 refine codeAny_loop rfl I (λn s hI=>?_) n h
 show wpAny _ A ((compTurn (.ListComp dI gens scope pos) d it acc env).onRaise (λx=>do noteFrame x env;theTreesLotGoes x)) _ _ s
 refine wpAny_noted ?_
 rw[ht]
 refine aad (wpAny_standAt (aad (aaN (turn n s hI) (λr s₁ h₁=>?_) λ_ _ h'=>h'.elim)))
 cases r with
 |none=>exact aak h₁
 |some v=>
  refine aad (aaN h₁ (λ_ s₁' h₁'=>?_) λ_ _ h'=>h'.elim)
  refine aad (aaN h₁' (λ_ s₂ h₂=>aad (aaN h₂ (λok s₃ h₃=>?_) λ_ _ h'=>h'.elim)) λ_ _ h'=>h'.elim)
  cases ok with
  |false=>exact aak ⟨rfl,h₃⟩
  |true=>exact aad (aaN h₃ (λ_ s₅ h₅=>aak ⟨rfl,h₅⟩) λ_ _ h'=>h'.elim)
abbrev TU:=St->Hp->(St->Hp->Prop)->Prop
def PU(X:Cx)(m:Sem Unit)(t:TU):Prop:=
 ∀(ah:List (Addr×Obj)) (s:Shared) (σ:St) (H:Hp) (Q:St->Hp->Prop),Inv X ah σ H s->t σ H Q->wpAny (model X.prog X.w) X.A m (λ_ s'=>∃σ' H',Inv X ah σ' H' s'/\Q σ' H') (λ_ _=>False) s
noncomputable def JG(D:Addr)(te:TE):TU:=λσ H Q=>te σ H λv H5=>∃ys,H5 D=some (.lst ys)/\ys.length<sizeLine/\Q σ (upd H5 D (.lst (ys++[v])))
theorem Ek(he:PE X dI te)(hx:X.xe=λ_ _=>False):PU X (do let _ <- call (.builtin "list.append") [.ref D,<- eval dI X.env]) (JG D te):=by
 intro ah s σ H Q I h
 have he:=he ah s σ H _ I h
 rw[hx]at he
 refine aad (aaN he (λy s8 ⟨v,H8,I8,r8,ys,hD8,hz8,q8⟩=>?_) λ_ _ z=>z)
 have ma:=kZ ah s8 σ H8 (.ref D) [v] (.ref D) [y] (λ_ H9=>Q σ H9) I8 rfl (.cons r8 .nil) ⟨_,ys,v,rfl,rfl,hD8,hz8,q8⟩
 rw[hx]at ma
 exact aad (aaN ma (λ_ s9 ⟨_,H9,I9,_,q9⟩=>aak ⟨σ,H9,I9,q9⟩) λ_ _ z=>z)
noncomputable def σC(k:Nat)(D:Addr)(σ:St):St:=σ++(List.replicate k none++[some (.ref D)])
def Wg(X:Cx)(σ:St)(b:Bk):Prop:=∃ah,Inv X ah σ b.H₀ b.s₀/\∀a∈b.fp,kY X ah b.H₀ a
def JH(X:Cx)(k:Nat)(g:Bk->TG)(tt:Bk->TT)(te:Addr->Bk->TU)(J:It)(D:Addr)(σ:St)(H1:Hp)(Q:VK):Prop:=
 ∃W:Nat->Nat->St->Hp->Prop,(∃m,W 0 m (σC k D σ) (upd H1 D (.lst [])))/\∀i m σ' H',W i m σ' H'->
  (J.stop i H'/\Q (.ref D) H')\/(J.go i H'/\∃Nn:St->Hp->Prop,(∀YB YC,Nn YB YC->∃m',m'<m/\W (i+1) m' YB YC)/\∀x H2,J.Yt i H' x H2->∀bk:Bk,Wg X σ bk->g bk x σ' H2 λσ2 H3=>tt bk σ2 H3 λb H4=>
   if b=true then te D bk σ2 H4 Nn else Nn σ2 H4)
noncomputable def za(X:Cx)(k:Nat)(wi:TI)(g:Bk->TG)(tt:Bk->TT)(te:Addr->Bk->TU):TE:=λσ H Q=>wi σ H λJ H1=>∀D,H1 D=none->JH X k g tt te J D σ H1 Q
structure Names(N N':List Str)(scope:Scope)(k:Nat):Prop where
 len:N'.length=N.length+(k+1)
 last:∀x,N'[N.length+k]?=some x->scope.names.lookup x=none
 old:∀i x,N'[i]?=some x->i<N.length->scope.names.lookup x=none\/(N[i]?=some x/\scope.names.lookup x≠some .local)
theorem dR:(relabel scope env).names.lookup x=(scope.names.lookup x).map λk=>if (k==NameKind.free&&env.scope.kind==.function&&env.kindOf x==some .cell)then NameKind.cell else k:=iC
section
variable{X:Cx}{tg iter dI:Expr}{ifs:List Expr}{scope:Scope}{pos:Pos}
theorem oG(B:aX X.env.scope scope)(h:(compEnvC scope cl C X.env).kindOf x=some .cell\/(compEnvC scope cl C X.env).kindOf x=some .free) :
  (x,NameKind.free)∈scope.names:=by
 have e:(compEnvC scope cl C X.env).kindOf x=(scope.names.lookup x).map λk=>if (k==NameKind.free&&X.env.scope.kind==.function&&X.env.kindOf x==some .cell)then NameKind.cell else k:=dR
 rw[e]at h
 cases q:scope.names.lookup x with
 |none=>rw[q]at h;rcases h with h |h <;> cases h
 |some k=>
  have hm:=mem_of_lookup q
  cases k with
  |free=>exact hm
  |cell=>exact absurd rfl (B.sP _ hm)
  |_=>rw[q]at h;rcases h with h |h <;> (simp at h)
theorem El(B:aX X.env.scope scope)(I:Inv X ah σ H s)(hC:s⁻¹<=C)
  (hf:∀b∈fp,kY X ah H b) (hfs:∀b∈fp,b<s⁻¹)
  (hcl:∀x c,cl.lookup x=some c->X.env.cells.lookup x=some c/\(x,NameKind.free)∈scope.names) (JK:∀y∈scope.names,y.2=.free->∃c,cl.lookup y.1=some c):(X.block N' scope cl C s H fp).Ok where
 mod:=I.ok.mod
 kind:=B.kind
 glob:=I.ok.glob
 blt:=I.ok.blt
 above:=hC
 inj:=λx y c h1 h2=>I.ok.inj x y c (hcl x c h1).1 (hcl y c h2).1
 has:=λx h=>JK _ (oG (cl:=cl) (C:=C) B h) rfl
 O5:=λx c h1 h2=>by
  have e:scope.names.lookup x=some .local:=by
   have:(scope.names.lookup x==some NameKind.local)=true:=h1
   simpa using this
  have h3:=(hcl x c h2).2
  have q:=B.Wf _ h3 rfl
  rw[e]at q;cases q
 hd:=I.ok.hd
 frames:=I.ok.frames
 stk:=.inl rfl
 UJ:=λb hb=>⟨aaG (aan (hfs b hb) hC),λx c e=>(hf b hb).2.2.2.2.1 x c (hcl x c e).1⟩
 bs:=I.bs
 DG:=aaI I.ok.DG I.sz
 uE:=λb o e hb=>by
  obtain⟨_,_,_,h3,_⟩:=hf b hb
  rcases h3 with h3 |h3
  .
   exact I.ok.uE b o e h3
  .
   exact absurd (aan (aas e) (aaI I.ok.DG h3)) (aa7 _)
 wM:=λb hb hm=>by
  rcases aaj.mp (I.wN b hm)with e |e
  .
   exact (hf b hb).2.1 e
  .
   exact (hf b hb).2.2.1 e
 jX:=I.stack
 Jp:=I.sr
theorem qZ{ah:List (Addr×Obj)}{σ:St}{H:Hp}{s:Shared}{N':List Str}{k:Nat}{wi:TI}{g:Bk->TG}{tt:Bk->TT}{tu:Addr->Bk->TU}{rest:List Comprehension}{em:Value->Env->Sem Unit}{use:Option (Value->Sem Unit)}{Q:Value->Shared->Prop}{Q0:VK}
  (B:aX X.env.scope scope) (hc:X.calm=true) (hN:Names X.N N' scope k) (hi:PI X tg iter wi) (hturn:∀it acc env,compTurn (.ListComp dI (⟨tg,iter,ifs,0⟩::rest) scope pos) 0 it acc env=Ej (.ListComp dI (⟨tg,iter,ifs,0⟩::rest) scope pos) tg iter ifs 0 it acc env (em acc env))
  (hin:∀(b:Bk) (D:Addr),PG (X.blk N' scope b) tg (g b)/\uM (X.blk N' scope b) ifs (tt b)/\PU (X.blk N' scope b) (em (.ref D) (X.blk N' scope b).env) (tu D b))
  (hs:∀x,foldedSetIterable iter X.env x=pure x) (I:Inv X ah σ H s) (h:za X k wi g tt tu σ H Q0)
  (fin:∀s' H' D C m,Inv X ah σ H' s'->kY X ah H' C->s'.heap.Ns C m->Q0 (.ref D) H'->compPost (model X.prog X.w) X.A X.xe use Q (.ref D) C (.ok .next) s') :
  wpAny (model X.prog X.w) X.A (comprehension (.ListComp dI (⟨tg,iter,ifs,0⟩::rest) scope pos) scope X.env (firstIterPos (⟨tg,iter,ifs,0⟩::rest) pos) (newList []) false (eval iter X.env) use) Q X.xe s:=by
 obtain⟨cl,hclos,hcl,JK⟩:=oF (scope:=scope) (env:=X.env) λy hy hf=>I.ok.has y.1 (B.free y hy hf)
 refine wpAny_comprehension_free rfl hs hclos B.kind B.uniq (bN (hi ah s σ H _ I h) λxv s₁ h₁=>bN h₁ λitv s₂ h₂=>?_)
 obtain⟨it,fp,tn,J,H2,rfl,I2,T,aU,f2,hW⟩:=h₂
 refine aaS (wpAny_newFunctionEnv B.sP (by intro y hy;simp at hy) (λh₁ Qe JL=>?_) B.kind)
 dsimp only at Qe JL ⊢
 generalize Z4:s₂.heap.push { cls:=.type "list",dict:=none,data:=.seq ([]:List Value).toArray}=P2 at Qe JL ⊢
 have hC:P2.objs.size=s₂⁻¹+1:=by rw[<- Z4,abQ]
 have hDC:s₂⁻¹≠P2.objs.size:=by rw[hC];exact aaG (abx _)
 have Qf:s₂⁻¹<=P2.objs.size:=by rw[hC];exact acj _
 have old:∀b o,s₂.heap.get? b=some o->h₁.get? b=some o:=λb o e=>JL.extBut b o (aaG (by rw[hC];exact Nat.lt_succ_of_lt (aas e))) (aae _ (Z4▸aae _ e))
 have hD0:H2 s₂⁻¹=none:=I2.hok.fresh (aal _)
 have hC0:H2 P2.objs.size=none:=I2.hok.fresh Qf
 have fps:∀b∈fp,b<s₂⁻¹:=λb hb=>by
  obtain⟨o,e,_⟩:=T.obj _ _ aU b hb
  exact aas e
 have ok':=El (N':=N') (cl:=cl) B I2 Qf f2 fps hcl JK
 obtain⟨W,⟨m0,w0⟩,turn⟩:=hW s₂⁻¹ hD0
 have Z5:∀b∈fp,b∉frs X.stack:=λb hb=>ok'.wM b hb
 obtain⟨hg,ht,he⟩:=hin ⟨cl,P2.objs.size,s₂,H2,fp⟩ s₂⁻¹

 have I0:Inv (X.block N' scope cl P2.objs.size s₂ H2 fp) [] (σC k s₂⁻¹ σ) (upd H2 s₂⁻¹ (.lst [])) { s₂ with heap:=h₁,toks:=s₂.toks+([]:List (Str×Value)).length}:=by
  refine⟨ok',rfl,I2.bare,Un.laid old (aal _) hD0,⟨_,Qe,λi x v e1 e2 e3=>?_⟩,λx c e=>?_,?_,λx c e=>?_,λp hp=>?_,I2.hok.laid old (aal _) ?_,?_⟩
  .
   have Wh:(compEnvC scope cl P2.objs.size X.env).kindOf x=some .local\/(compEnvC scope cl P2.objs.size X.env).kindOf x=some .cell\/(compEnvC scope cl P2.objs.size X.env).kindOf x=some .free:=e3
   have ek:(compEnvC scope cl P2.objs.size X.env).kindOf x=(scope.names.lookup x).map λk=>if (k==NameKind.free&&X.env.scope.kind==.function&&X.env.kindOf x==some .cell)then NameKind.cell else k:=dR
   have Vs:i<σ.length:=by
    rcases abA i σ.length with z |z
    .
     exact z
    .
     exfalso
     unfold σC at e2
     rw[aam z]at e2
     rcases abA (i - σ.length) k with z2 |z2
     .
      rw[aat (by rw[aaB];exact z2)]at e2
      have:=aaP e2
      rw[abB]at this
      exact absurd this.2 (by simp)
     .
      rw[aam (by rw[aaB];exact z2),aaB]at e2
      have z3:i - σ.length - k=0:=by
       rcases Nat.eq_zero_or_pos (i - σ.length - k)with q |q
       .
        exact q
       .
        rw[abU (Nat.succ_le_of_lt q)]at e2;cases e2
      have z4:i=X.N.length+k:=by rw[<- I2.len];lia
      have hn:=hN.last x (by rw[<- z4];exact e1)
      rw[ek,hn]at Wh
      rcases Wh with q |q |q <;> cases q
   have JM:σ[i]?=some (some v):=by
    unfold σC at e2
    rw[aat Vs]at e2
    exact e2
   have hiN:i<X.N.length:=by rw[<- I2.len];exact Vs
   rcases hN.old i x e1 hiN with z |⟨z,z2⟩
   .
    rw[ek,z]at Wh
    rcases Wh with q |q |q <;> cases q
   .
    have hfree:(compEnvC scope cl P2.objs.size X.env).kindOf x=some .cell\/(compEnvC scope cl P2.objs.size X.env).kindOf x=some .free:=by
     rcases Wh with q |q
     .
      exfalso
      rw[ek]at q
      cases hq:scope.names.lookup x with
      |none=>rw[hq]at q;cases q
      |some kk=>
       rw[hq]at q
       cases kk with
       | «local»=>exact z2 hq
       |free=>
        simp only[acN,Option.some.injEq]at q
        split at q <;> cases q
       |_=>simp at q
     .
      exact q
    have hm:=oG (cl:=cl) (C:=P2.objs.size) B hfree
    obtain⟨c,hc1⟩:=JK _ hm rfl
    have Wi:cl.lookup x=some c:=hc1
    have hc2:=(hcl x c Wi).1
    obtain⟨m2,hn2,hl2⟩:=I2.loc
    have Z6:nI X.env.scope x:=(B.free _ hm rfl).elim (λa=>.inr (.inl a)) λa=>.inr (.inr a)
    obtain⟨u,ru,lk⟩:=hl2 i x v z JM Z6
    refine⟨u,ru,.inr ⟨hfree,c,Wi,?_⟩⟩
    rcases lk with ⟨q1,_⟩ |⟨_,c',q1,q2⟩
    .
     exfalso
     have zb:X.env.scope.names.lookup x=some .local:=q1
     rcases B.free _ hm rfl with y |y
     .
      have y':X.env.scope.names.lookup x=some .cell:=y
      rw[zb]at y';cases y'
     .
      have y':X.env.scope.names.lookup x=some .free:=y
      rw[zb]at y';cases y'
    .
     rw[hc2]at q1
     cases q1
     obtain⟨o,ho,hd⟩:=q2
     exact⟨o,old _ _ ho,hd⟩
  .
   obtain⟨v,o,ho,hd⟩:=I2.cell x c (hcl x c e).1
   exact⟨v,o,old _ _ ho,hd⟩
  .
   show upd H2 s₂⁻¹ (.lst []) P2.objs.size=none
   rw[az (aaX hDC)];exact hC0
  .
   have q:=I2.dJ x c (hcl x c e).1
   obtain⟨v,z⟩:=I2.cell x c (hcl x c e).1
   rw[az (aaG z.lt)]
   exact q
  .
   exact absurd (show p∈([]:List (Addr×Obj))from hp) (by simp)
  .
   exact⟨abf _,[],_,.nil,JL.extBut _ _ hDC (aae _ (Z4▸aaq _ rfl))⟩
  .
   show (σC k s₂⁻¹ σ).length=N'.length
   unfold σC
   rw[aaw,aaw,aaB,hN.len,I2.len]
   rfl
 have stat:∀{H':Hp},(∀b∈fp,H' b=none)->∀b∈fp,kY (X.block N' scope cl P2.objs.size s₂ H2 fp) [] H' b:=λhn b hb=>
  ⟨hn b hb,(ok'.UJ b hb).1,Z5 b hb,.inl hb,λx c e=>(ok'.UJ b hb).2 x c e,λp hp=>absurd (show p∈([]:List (Addr×Obj))from hp) (by simp)⟩
 have loop:∀s₃:Shared,s₃={ s₂ with heap:=h₁,toks:=s₂.toks+([]:List (Str×Value)).length}->
   codeAny (model X.prog X.w) X.A (.compLoop (.ListComp dI (⟨tg,iter,ifs,0⟩::rest) scope pos) 0 (.ref it) (.ref s₂⁻¹) (compEnvC scope cl P2.objs.size X.env))
    (compPost (model X.prog X.w) X.A X.xe use Q (.ref s₂⁻¹) P2.objs.size) s₃:=by
  rintro s₃ rfl
  refine sQ (hturn _ _ _) (λn s'=>∃i σ' H',Inv (X.block N' scope cl P2.objs.size s₂ H2 fp) [] σ' H' s'/\tn i s'.heap/\(∀b∈fp,H' b=none)/\W i n σ' H') ?_ m0
   ⟨0,_,_,I0,T.keep _ _ _ aU λb hb o e=>old b o e,λb hb=>?_,w0⟩
  .
   rintro n s3 ⟨i,σ3,H3,I3,gF,VJ,w3⟩
   rcases turn i n σ3 H3 w3 with ⟨stop,qn⟩ |⟨go,Nn,hNn,step⟩
   .
    refine bN (T.done (X.block N' scope cl P2.objs.size s₂ H2 fp) rfl rfl rfl hc i [] s3 σ3 H3 (λ_ _=>False) I3 (stat VJ) gF stop) λr s4 ⟨hr,I4⟩=>?_
    subst hr
    obtain⟨m,hm,_⟩:=id I4.loc
    have I5:Inv X ah σ H3 s4:=I2.call' (ch:=fp) I4.os I4.base I4.hok I4.bare λb hb=>⟨(f2 b hb).2.2.2.1,(f2 b hb).2.1,(f2 b hb).2.2.2.2.1,(f2 b hb).2.2.2.2.2⟩
    exact fin s4 H3 _ _ m I5 (I2.Ae Qf I4.free) hm qn
   .
    refine bN (T.item (X.block N' scope cl P2.objs.size s₂ H2 fp) rfl rfl rfl hc i [] s3 σ3 H3 (λ_ _=>False) I3 (stat VJ) gF go) λr s4 ⟨u,hr,h4⟩=>?_
    subst hr
    refine bN h4 λ_ s5 ⟨x,H5,I5,r5,y5,uI,ZF⟩=>?_
    have ZG:=I5.pinned (stat ZF) (T.obj _ _ uI)
    have again:∀{σ7:St}{H7:Hp}{s7:Shared},Inv (X.block N' scope cl P2.objs.size s₂ H2 fp) ([]++oq fp s5.heap) σ7 H7 s7->Nn σ7 H7->∃m,m<n/\∃i σ' H',Inv (X.block N' scope cl P2.objs.size s₂ H2 fp) [] σ' H' s7/\tn i s7.heap/\(∀b∈fp,H' b=none)/\W i m σ' H':=λ{σ7 H7 s7} I7 n7=>by
     obtain⟨m',hm,w7⟩:=hNn σ7 H7 n7
     refine⟨m',hm,i+1,σ7,H7,I7.jY,T.keep _ _ _ uI λb hb o e=>(I7.pin (b,o) (aaM _ (aaM _ (gI hb e)))).1,λb hb=>?_,w7⟩
     obtain⟨o,e,d⟩:=T.obj _ _ uI b hb
     exact (I7.pin (b,o) (aaM _ (aaM _ (gI hb e)))).2.1
    refine bN (hg _ s5 σ3 H5 x u _ ZG r5 (step x H5 y5 ⟨cl,P2.objs.size,s₂,H2,fp⟩ ⟨ah,I2,f2⟩)) λ_ s6 ⟨σ6,H6,I6,q6⟩=>?_
    refine bN (ht _ s6 σ6 H6 _ I6 q6) λb s7 ⟨H7,I7,q7⟩=>?_
    cases b with
    |false=>
     rw[aau aaF]at q7 ⊢
     exact again I7 q7
    |true=>
     rw[aav rfl]at q7 ⊢
     exact aaN (he _ s7 σ6 H7 _ I7 q7) (λ_ s9 ⟨σ9,H9,I9,q9⟩=>again I9 q9) λ_ _ z=>z
  .
   show upd H2 s₂⁻¹ (.lst []) b=none
   rw[az (aaG (fps b hb))]
   exact (f2 b hb).1
 refine codeAny_compStart_list (loop _ rfl) (T.self _ 0 _ _ _ ?_ (loop _ rfl))
 exact T.keep _ _ _ aU λb hb o e=>old b o e
theorem zc{N':List Str}{k:Nat}{wi:TI}{g:Bk->TG}{tt:Bk->TT}{te:Bk->TE}(B:aX X.env.scope scope)(hc:X.calm=true)(hN:Names X.N N' scope k)(hi:PI X tg iter wi)
  (hin:∀b:Bk,PG (X.blk N' scope b) tg (g b)/\uM (X.blk N' scope b) ifs (tt b)/\PE (X.blk N' scope b) dI (te b))
  (hs:∀x,foldedSetIterable iter X.env x=pure x:=by intro _;rfl):PE X (.ListComp dI [⟨tg,iter,ifs,0⟩] scope pos) (za X k wi g tt λD b=>JG D (te b)):=by
 intro ah s σ H Q I h
 rw[eval_ListComp]
 refine qZ (use:=none) B hc hN hi (rest:=[]) (em:=λacc env=>do let _ <- call (.builtin "list.append") [acc,<- eval dI env]) (λ_ _ _=>rfl) (λb D=>⟨(hin b).1,(hin b).2.1,Ek (hin b).2.2 rfl⟩) hs I h λs' H' D C m I' f' hn q=>?_
 refine⟨m,hn,λh' sb=>⟨.ref D,H',?_,rfl,q⟩⟩
 obtain⟨f0,f1,f2,f3,f4,f5⟩:=f'
 exact I'.turned (t':=s'.toks) (λb o hb e=>(sb.2 b hb).trans e) f0 f1 f3 f4 f5
theorem JN{N':List Str}{k:Nat}{wi:TI}{g:Bk->TG}{tt:Bk->TT}{te:Bk->TE}{i:Nat}{y:Str}{py bM:Pos}(B:aX X.env.scope scope)(hc:X.calm=true)(hN:Names X.N N' scope k)(hi:PI X tg iter wi)
  (hin:∀b:Bk,PG (X.blk N' scope b) tg (g b)/\uM (X.blk N' scope b) ifs (tt b)/\PE (X.blk N' scope b) dI (te b))
  (Wj:X.N.Nodup) (hy:X.N[i]?=some y) (hl:X.env.scope.names.lookup y=some .local)
  (hsw:swapsWith (.ListComp dI [⟨tg,iter,ifs,0⟩] scope pos) (some (.Name y py)) bM.line X.env=pure true)
  (hs:∀x,foldedSetIterable iter X.env x=pure x:=by intro _;rfl):PS X (.Assign [.Name y py] (.ListComp dI [⟨tg,iter,ifs,0⟩] scope pos) bM) (Pj (za X k wi g tt λD b=>JG D (te b)) (yQ i)):=by
 intro ah s σ H D0 I h
 rw[exec_Assign_Name_used _ _ _ _ hsw]
 refine aad (wpAny_standAt (aad ?_))
 show wpAny _ X.A (do let _ <- comprehension (.ListComp dI [⟨tg,iter,ifs,0⟩] scope pos) scope X.env _ (newList []) false (eval iter X.env) (some (assign (.Name y py) X.env))) _ _ s
 refine aad (aaN (qZ (use:=some (assign (.Name y py) X.env)) (Q:=λ_ s'=>SP X ah D0 .next s') B hc hN hi (rest:=[]) (em:=λacc env=>do let _ <- call (.builtin "list.append") [acc,<- eval dI env]) (λ_ _ _=>rfl) (λb D=>⟨(hin b).1,(hin b).2.1,Ek (hin b).2.2 rfl⟩) hs I h λs' H' D C m I' f' hn q=>?_) (λ_ s' hq=>aak (aak hq)) λ_ _ e=>e)
 refine wpAny_assign_Name (qQ I' Wj hy (.inl hl) (v:=.ref D) rfl (λs2 I2 hsb=>?_) (.inr hl))
 obtain⟨f0,f1,f2,f3,f4,f5⟩:=f'
 obtain⟨a,sb,ha⟩:=hsb
 have nC:C≠a:=by
  rcases ha with e |e
  .
   rw[e];exact f1
  .
   exact aaX (f4 _ _ e)
 refine⟨m,hn.sameBut sb nC,λh' sb'=>⟨_,H',?_,q⟩⟩
 exact I2.turned (t':=s2.toks) (λb o hb e=>(sb'.2 b hb).trans e) f0 f1 f3 f4 f5
end
end L2
namespace Ev
open L2
inductive D where
 |non |bl (b:Bool) |int (i:Int) |str (x:Str) |tup (l:List D) |lst (l:List D) |fix (l:List D) |emp |mC (C:Addr)
 deriving Inhabited
inductive Slot where
 |no |dat (d:D) |own (l:List D)
 deriving Inhabited
inductive R where
 |dat (d:D) |new (l:List D) |var (i:Nat)
 deriving Inhabited
abbrev G:=List Slot
abbrev Sg:=L2.St
noncomputable abbrev K0:Hp:=λ_=>none
def LstAt(M:List Addr)(H:Hp)(a:Addr)(xs:List V):Prop:=a∉M/\H a=some (.lst xs)
noncomputable def oH(K:Frag)(M:List Addr)(H:Hp)(a:Addr)(xs:List V):Prop:=(a∉M/\∃o,H a=some (.gG o (.lst xs)))\/cK K K0 a xs
noncomputable def TupAt(K:Frag)(M:List Addr)(H:Hp)(a:Addr)(xs:List V):Prop:=(a∉M/\Rd H a (.tup xs))\/(iA K K0 a xs/\∃o,K.lookup a=some o/\o.dict=none)
theorem Z7(h:Rd K0 a u):False:=by rcases h with h |⟨o,h⟩ <;> cases h
theorem oH.sq{K:Frag}{M:List Addr}{H:Hp}{a:Addr}{xs:List V}(h:oH K M H a xs):cK K H a xs:=by
 rcases h with ⟨_,o,h⟩ |h |h
 .
  exact .inl (.inr ⟨o,h⟩)
 .
  exact (Z7 h).elim
 .
  exact .inr h
theorem TupAt.sq{K:Frag}{M:List Addr}{H:Hp}{a:Addr}{xs:List V}(h:TupAt K M H a xs):iA K H a xs:=by
 rcases h with ⟨_,h⟩ |⟨h |h,_⟩
 .
  exact .inl h
 .
  exact (Z7 h).elim
 .
  exact .inr h
noncomputable abbrev xx(C a:Addr):HO:=.ext λh=>∃o,h.get? a=some o/\o.cls=.ref C/\PySem.W.notCls o=true/\o.dict=none
structure Dm(K:Frag)(C:Addr):Prop where
 gga:PySem.W.findIn K (.ref C) "__getattribute__" = some (some (.builtin "BaseException.__getattribute__"))
 gat:PySem.W.findIn K (.ref C) "__getattr__" = some none
 bas:PySem.W.mroIn K C (.type "BaseException")=some true
 dct:PySem.W.hasDictIn K C=true
 cls:PySem.W.findIn K (.ref C) "__class__" = some (some (.builtin "object.__class__"))
 spc:PySem.W.specialIn K (.builtin "object.__class__") "__get__" = some (some (.builtin "getset_descriptor.__get__"))
 tks:PySem.W.takesIn K (.builtin "object.__class__")=some true
 mro:PySem.W.mroIn K C (.type "object")=some true
 kit:∀n∈["int", "bool", "str", "tuple", "list", "dict"],PySem.W.kitOne K (.ref C) (.type n)=some false
mutual
inductive Rep(K:Frag)(M:List Addr)(H:Hp):D->V->Prop
 |non:Rep K M H .non .non
 |bl (b:Bool):Rep K M H (.bl b) (.bl b)
 |int (i:Int):Rep K M H (.int i) (.int i)
 |str (x:Str):Rep K M H (.str x) (.str x)
 |tup {l:List D}{a:Addr}{xs:List V}:TupAt K M H a xs->aI K M H l xs->Rep K M H (.tup l) (.ref a)
 |lst {l:List D}{a:Addr}{xs:List V}:LstAt M H a xs->aI K M H l xs->Rep K M H (.lst l) (.ref a)
 |fix {l:List D}{a:Addr}{xs:List V}:oH K M H a xs->aI K M H l xs->Rep K M H (.fix l) (.ref a)
 |emp:a∉M->H a=some (.dK [])->Rep K M H .emp (.ref a)
 |mC:Dm K C->a∉M->H a=some (xx C a)->Rep K M H (.mC C) (.ref a)
inductive aI(K:Frag)(M:List Addr)(H:Hp):List D->List V->Prop
 |nil:aI K M H [] []
 |cons {d:D}{ds:List D}{x:V}{xs:List V}:Rep K M H d x->aI K M H ds xs->aI K M H (d::ds) (x::xs)
end
def au(M:List Addr)(H:Hp)(M':List Addr)(H':Hp):Prop:=∀b o,H b=some o->b∉M->H' b=some o/\b∉M'
theorem au.rd(h:au M H M' H')(n:a∉M)(r:Rd H a u):a∉M'/\Rd H' a u:=by
 rcases r with r |⟨o,r⟩
 .
  exact⟨(h _ _ r n).2,.inl (h _ _ r n).1⟩
 .
  exact⟨(h _ _ r n).2,.inr ⟨o,(h _ _ r n).1⟩⟩
theorem Rep.stay{K:Frag}{M M':List Addr}{H H':Hp}(h:au M H M' H'){d:D}{v:V}(r:Rep K M H d v):Rep K M' H' d v:=by
 refine Rep.rec (motive_1:=λd v _=>Rep K M' H' d v) (motive_2:=λds vs _=>aI K M' H' ds vs) .non .bl .int .str (λt _ q=>?_) (λt _ q=>?_) (λt _ q=>?_) (λn r=>.emp (h _ _ r n).2 (h _ _ r n).1) (λx n r=>.mC x (h _ _ r n).2 (h _ _ r n).1) .nil (λ_ _ a b=>.cons a b) r
 .
  rcases t with t |t
  .
   exact .tup (.inl (h.rd t.1 t.2)) q
  .
   exact .tup (.inr t) q
 .
  exact .lst ⟨(h _ _ t.2 t.1).2,(h _ _ t.2 t.1).1⟩ q
 .
  rcases t with ⟨n,o,r⟩ |t
  .
   exact .fix (.inl ⟨(h _ _ r n).2,o,(h _ _ r n).1⟩) q
  .
   exact .fix (.inr t) q
theorem aI.stay{K:Frag}{M M':List Addr}{H H':Hp}(h:au M H M' H'):∀{ds:List D}{vs:List V},aI K M H ds vs->aI K M' H' ds vs:=by
 intro ds
 induction ds with
 |nil=>intro vs q;cases q;exact .nil
 |cons d ds ih=>intro vs q;cases q with |cons a b=>exact .cons (a.stay h) (ih b)
theorem au.refl(M:List Addr)(H:Hp):au M H M H:=λ_ _ e n=>⟨e,n⟩
theorem au.trans(a:au M H M1 H1)(b:au M1 H1 M2 H2):au M H M2 H2:=λc o e n=>b c o (a c o e n).1 (a c o e n).2
theorem au.less(h:∀m∈M',m∈M):au M H M' H:=λ_ _ e n=>⟨e,λz=>n (h _ z)⟩
theorem au.laid(hp:H p=none):au M H M (upd H p o):=λb u e n=>⟨by rw[az (aH e hp)];exact e,n⟩
theorem au.aZ(hp:H p=none):au M H (p::M) (upd H p o):=λb u e n=>
 ⟨by rw[az (aH e hp)];exact e,λz=>(aaj.mp z).elim (λq=>aH e hp q) n⟩
theorem au.write(hp:p∈M):au M H M (upd H p o):=λb u e n=>⟨by rw[az (λq=>n (by rw[q];exact hp))];exact e,n⟩
theorem aI.length{K:Frag}{M:List Addr}{H:Hp}{ds:List D}{vs:List V}(r:aI K M H ds vs):ds.length=vs.length:=by
 induction ds generalizing vs with
 |nil=>cases r;rfl
 |cons d ds ih=>cases r with |cons a b=>exact congrArg (· + 1) (ih b)
theorem aI.append{K:Frag}{M:List Addr}{H:Hp}{ds es:List D}{vs ws:List V}(r:aI K M H ds vs)(s:aI K M H es ws):aI K M H (ds++es) (vs++ws):=by
 induction ds generalizing vs with
 |nil=>cases r;exact s
 |cons d ds ih=>cases r with |cons a b=>exact .cons a (ih b)
theorem aI.get{K:Frag}{M:List Addr}{H:Hp}{ds:List D}{vs:List V}{i:Nat}{d:D}(r:aI K M H ds vs)(e:ds[i]?=some d):∃v,vs[i]?=some v/\Rep K M H d v:=by
 induction ds generalizing vs i with
 |nil=>exact nomatch (show none=some d from e)
 |cons d' ds ih=>cases r with |cons a b=>cases i with
  |zero=>cases (show some d'=some d from e);exact⟨_,rfl,a⟩
  |succ i=>
   obtain⟨v,h⟩:=ih (i:=i) b e
   exact⟨v,h⟩
theorem aI.set{K:Frag}{M:List Addr}{H:Hp}{d:D}{v:V}(r:Rep K M H d v){ds:List D}{vs:List V}(i:Nat)(q:aI K M H ds vs):aI K M H (ds.set i d) (vs.set i v):=by
 induction ds generalizing vs i with
 |nil=>cases q;exact .nil
 |cons d' ds ih=>cases q with |cons a b=>cases i with
  |zero=>exact .cons r b
  |succ i=>exact .cons a (ih i b)
theorem aI.take{K:Frag}{M:List Addr}{H:Hp}{ds:List D}{vs:List V}(n:Nat)(q:aI K M H ds vs):aI K M H (ds.take n) (vs.take n):=by
 induction ds generalizing vs n with
 |nil=>cases q;rw[List.take_nil,List.take_nil];exact .nil
 |cons d' ds ih=>cases q with |cons a b=>cases n with
  |zero=>exact .nil
  |succ n=>exact .cons a (ih n b)
theorem aI.drop{K:Frag}{M:List Addr}{H:Hp}{ds:List D}{vs:List V}(n:Nat)(q:aI K M H ds vs):aI K M H (ds.drop n) (vs.drop n):=by
 induction ds generalizing vs n with
 |nil=>cases q;rw[List.drop_nil,List.drop_nil];exact .nil
 |cons d' ds ih=>cases q with |cons a b=>cases n with
  |zero=>exact .cons a b
  |succ n=>exact ih n b
theorem aI.reverse{K:Frag}{M:List Addr}{H:Hp}{ds:List D}{vs:List V}(q:aI K M H ds vs):aI K M H ds.reverse vs.reverse:=by
 induction ds generalizing vs with
 |nil=>cases q;exact .nil
 |cons d ds ih=>cases q with |cons a b=>
  rw[aci,aci]
  exact (ih b).append (.cons a .nil)
inductive Slots(K:Frag)(M:List Addr)(H:Hp):G->Sg->List Addr->Prop
 |nil:Slots K M H [] [] []
 |no:Slots K M H g σ As->Slots K M H (.no::g) (v::σ) As
 |dat {g:G}{σ:Sg}{As:List Addr}{v:V}{d:D}:Rep K M H d v->Slots K M H g σ As->Slots K M H (.dat d::g) (some v::σ) As
 |own {g:G}{σ:Sg}{As:List Addr}{a:Addr}{xs:List V}{ds:List D}:H a=some (.lst xs)->aI K M H ds xs->Slots K M H g σ As->Slots K M H (.own ds::g) (some (.ref a)::σ) (a::As)
theorem Slots.stay{K:Frag}{M M':List Addr}{H H':Hp}(h:au M H M' H'){g:G}{σ:Sg}{As:List Addr}(k:∀a∈As,∀o,H a=some o->H' a=some o)(q:Slots K M H g σ As):Slots K M' H' g σ As:=by
 induction q with
 |nil=>exact .nil
 |no q ih=>exact .no (ih k)
 |dat r q ih=>exact .dat (r.stay h) (ih k)
 |own e r q ih=>exact .own (k _ aah _ e) (r.stay h) (ih λa ha=>k a (aaf _ ha))
noncomputable def cF(K:Frag):List (Addr×Str):=K.filterMap λp=>match p.2.data with
 |.fields vs=>(match vs.toList with
  |_::.str n _::_=>if (n==("_law_refusals_right" : Str))=true then (match vs.toList[11]? with
   |some (Value.ref q)=>if (K.lookup q).isNone=true then some (q,("_law_refusals_right.<locals>.<lambda>" : Str))else none
   |_=>none)else none
  |_=>none)
 |_=>none
theorem Au{K:Frag}{p:Addr×Str}(h:p∈cF K):p.2 = "_law_refusals_right.<locals>.<lambda>" :=by
 unfold cF at h
 obtain⟨q,_,e⟩:=List.mem_filterMap.mp h
 split at e
 .
  split at e
  .
   split at e
   .
    split at e
    .
     split at e
     .
      cases e;rfl
     .
      cases e
    .
     cases e
   .
    cases e
  .
   cases e
 .
  cases e
structure Z where
 K:Frag
 H0:Hp
 M0:List Addr
 lent:List (Nat×Addr)

 T:List (Addr×Str)
noncomputable abbrev g8(q:Str)(c:Addr):HO:=.ext λh=>h.CodeRec (.ref c) q
def TabOk(H:Hp)(p:Addr×Str):Prop:=∃ps:Array Value,H p.1=some (.kW ps)/\TriplesOk ps.toList/\∀pos cv,codeAmong pos ps.toList=some cv->∃c,cv=.ref c/\H c=some (g8 p.2 c)
noncomputable abbrev Z.TA(z:Z):List Addr:=z.T.map (·.1)
theorem TabOk.keep(t:TabOk H p)(k:∀b o,H b=some o->(∀xs,o≠.lst xs)->H' b=some o):TabOk H' p:=by
 obtain⟨ps,h1,h2,h3⟩:=t
 exact⟨ps,k _ _ h1 (λ_ e=>nomatch e),h2,λpos cv e=>let ⟨c,e1,e2⟩:=h3 pos cv e;⟨c,e1,k _ _ e2 (λ_ e=>nomatch e)⟩⟩
noncomputable abbrev Z.B(z:Z):List Addr:=z.lent.map (·.2)
noncomputable abbrev Z.bor(z:Z):List Nat:=z.lent.map (·.1)
structure S(z:Z)(g:G)(σ:Sg)(As M:List Addr)(H:Hp):Prop where
 sl:Slots z.K M H g σ As
 nd:As.Nodup
 sub:∀a∈As,a∈M
 own:∀(i:Nat) (a:Addr) (l:List D),g[i]?=some (.own l)->σ[i]?=some (some (.ref a))->(i∈z.bor/\a∈z.B)\/z.H0 a=none
 live:∀m∈M,(∃xs,H m=some (.lst xs))\/m∈z.TA
 keep:∀b o,z.H0 b=some o->b∉z.B->b∉z.TA->H b=some o
 iX:∀m∈z.M0,m∈M
 m0:∀m∈z.M0,z.H0 m≠none
 bm:∀b∈z.B,b∈z.M0
 jT:∀p∈z.lent,σ[p.1]?=some (some (.ref p.2))/\∃l,g[p.1]?=some (.own l)
 tab:∀p∈z.T,TabOk H p
 tm:∀p∈z.T,p.1∈z.M0
 tt:z.T=cF z.K
section
variable{z:Z}{g:G}{σ:Sg}{As M:List Addr}{H:Hp}
theorem S.fresh(s:S z g σ As M H)(hp:H p=none):p∉M:=λhm=>by
 rcases s.live p hm with ⟨xs,e⟩ |e
 .
  rw[hp]at e;cases e
 .
  obtain⟨q,hq,rfl⟩:=aaD.mp e
  obtain⟨ps,h1,_⟩:=s.tab q hq
  rw[hp]at h1;cases h1
theorem S.NZ(s:S z g σ As M H)(hp:H p=some (.lst xs)):p∉z.TA:=λe=>by
 obtain⟨q,hq,rfl⟩:=aaD.mp e
 obtain⟨ps,h1,_⟩:=s.tab q hq
 rw[hp]at h1;cases h1
theorem S.cQ(s:S z g σ As M H)(hp:H p=none):z.H0 p=none:=by
 cases e:z.H0 p with
 |none=>rfl
 |some o=>
  by_cases hb:p∈z.B
  .
   exact absurd (s.iX _ (s.bm _ hb)) (s.fresh hp)
  .
   by_cases ht:p∈z.TA
   .
    obtain⟨q,hq,rfl⟩:=aaD.mp ht
    exact absurd (s.iX _ (s.tm q hq)) (s.fresh hp)
   .
    rw[s.keep p o e hb ht]at hp;cases hp
theorem S.laid(s:S z g σ As M H){p:Addr}{o:HO}(hp:H p=none):S z g σ As M (upd H p o) where
 sl:=s.sl.stay (au.laid hp) λa _ u e=>by rw[az (aH e hp)];exact e
 nd:=s.nd
 sub:=s.sub
 own:=s.own
 live:=λm hm=>by
  rcases s.live m hm with ⟨xs,e⟩ |e
  .
   exact .inl ⟨xs,by rw[az (aH e hp)];exact e⟩
  .
   exact .inr e
 keep:=λb u e hb ht=>by rw[az (aH (s.keep b u e hb ht) hp)];exact s.keep b u e hb ht
 iX:=s.iX
 m0:=s.m0
 bm:=s.bm
 jT:=s.jT
 tab:=λp h=>(s.tab p h).keep λb u e _=>by rw[az (aH e hp)];exact e
 tm:=s.tm
 tt:=s.tt
theorem S.aZ(s:S z g σ As M H){p:Addr}{xs:List V}(hp:H p=none):S z g σ As (p::M) (upd H p (.lst xs)) where
 sl:=s.sl.stay (au.aZ hp) λa _ u e=>by rw[az (aH e hp)];exact e
 nd:=s.nd
 sub:=λa ha=>aaf _ (s.sub a ha)
 own:=s.own
 live:=λm hm=>by
  rcases aaj.mp hm with rfl |hm
  .
   exact .inl ⟨xs,aE⟩
  .
   rcases s.live m hm with ⟨ys,e⟩ |e
   .
    exact .inl ⟨ys,by rw[az (aH e hp)];exact e⟩
   .
    exact .inr e
 keep:=λb u e hb ht=>by rw[az (aH (s.keep b u e hb ht) hp)];exact s.keep b u e hb ht
 iX:=λm hm=>aaf _ (s.iX m hm)
 m0:=s.m0
 bm:=s.bm
 jT:=s.jT
 tab:=λp h=>(s.tab p h).keep λb u e _=>by rw[az (aH e hp)];exact e
 tm:=s.tm
 tt:=s.tt
theorem S.drop(s:S z g σ As M H)(h0:z.H0 p=none)(hA:p∉As):S z g σ As (M.filter λm=>decide (m≠p)) H where
 sl:=s.sl.stay (au.less λm hm=>(aaE.mp hm).1) λ_ _ _ e=>e
 nd:=s.nd
 sub:=λa ha=>aaE.mpr ⟨s.sub a ha,by have:a≠p:=λe=>hA (e▸ha);simpa using this⟩
 own:=s.own
 live:=λm hm=>s.live m (aaE.mp hm).1
 keep:=s.keep
 iX:=λm hm=>aaE.mpr ⟨s.iX m hm,by have:m≠p:=λe=>s.m0 m hm (e▸h0);simpa using this⟩
 m0:=s.m0
 bm:=s.bm
 jT:=s.jT
 tab:=s.tab
 tm:=s.tm
 tt:=s.tt
end
noncomputable def cL(z:Z)(g:G)(σ:Sg)(As M:List Addr)(H:Hp):R->V->Prop
 |.dat d,v=>Rep z.K M H d v
 |.new l,v=>∃a xs,v=.ref a/\a∈M/\a∉As/\z.H0 a=none/\H a=some (.lst xs)/\aI z.K M H l xs
 |.var i,v=>∃l,g[i]?=some (.own l)/\σ[i]?=some (some v)
inductive Pk(K:Frag)(M:List Addr)(H:Hp):D->V->Prop
 |of:Rep K M H d v->Pk K M H d v
 |lst {l:List D}{a:Addr}{xs:List V}:H a=some (.lst xs)->aI K M H l xs->Pk K M H (.lst l) (.ref a)
theorem Pk.list{K:Frag}{M:List Addr}{H:Hp}{l:List D}{v:V}(h:Pk K M H (.lst l) v):∃a xs,v=.ref a/\H a=some (.lst xs)/\aI K M H l xs:=by
 cases h with
 |of r=>cases r with |lst h1 h2=>exact⟨_,_,rfl,h1.2,h2⟩
 |lst h1 h2=>exact⟨_,_,rfl,h1,h2⟩
theorem Slots.at{K:Frag}{M:List Addr}{H:Hp}{g:G}{σ:Sg}{As:List Addr}{i:Nat}{l:List D}(q:Slots K M H g σ As)(e:g[i]?=some (.own l)):∃a xs,σ[i]?=some (some (.ref a))/\a∈As/\H a=some (.lst xs)/\aI K M H l xs:=by
 induction q generalizing i with
 |nil=>exact nomatch (show none=some (Slot.own l)from e)
 |no q ih=>cases i with
  |zero=>exact nomatch (show some Slot.no=some (Slot.own l)from e)
  |succ i=>exact ih e
 |dat r q ih=>cases i with
  |zero=>exact nomatch (show some (Slot.dat _)=some (Slot.own l)from e)
  |succ i=>exact ih e
 |own h r q ih=>cases i with
  |zero=>cases (show some (Slot.own _)=some (Slot.own l)from e);exact⟨_,_,rfl,aah,h,r⟩
  |succ i=>obtain⟨a,xs,h1,h2,h3⟩:=ih e;exact⟨a,xs,h1,aaf _ h2,h3⟩
theorem Slots.N1{K:Frag}{M:List Addr}{H:Hp}{g:G}{σ:Sg}{As:List Addr}{i:Nat}{d:D}(q:Slots K M H g σ As)(e:g[i]?=some (.dat d)):∃v,σ[i]?=some (some v)/\Rep K M H d v:=by
 induction q generalizing i with
 |nil=>exact nomatch (show none=some (Slot.dat d)from e)
 |no q ih=>cases i with
  |zero=>exact nomatch (show some Slot.no=some (Slot.dat d)from e)
  |succ i=>exact ih e
 |dat r q ih=>cases i with
  |zero=>cases (show some (Slot.dat _)=some (Slot.dat d)from e);exact⟨_,rfl,r⟩
  |succ i=>exact ih e
 |own h r q ih=>cases i with
  |zero=>exact nomatch (show some (Slot.own _)=some (Slot.dat d)from e)
  |succ i=>exact ih e
theorem Slots.length{K:Frag}{M:List Addr}{H:Hp}{g:G}{σ:Sg}{As:List Addr}(q:Slots K M H g σ As):g.length=σ.length:=by
 induction q with
 |nil=>rfl
 |no q ih=>exact congrArg (· + 1) ih
 |dat r q ih=>exact congrArg (· + 1) ih
 |own h r q ih=>exact congrArg (· + 1) ih
theorem Slots.gK{K:Frag}{M:List Addr}{H:Hp}{d:D}{v:V}(r:Rep K M H d v){g:G}{σ:Sg}{As:List Addr}(i:Nat)(q:Slots K M H g σ As):∃aB,Slots K M H (g.set i (.dat d)) (σ.set i (some v)) aB/\aB.Sublist As:=by
 induction q generalizing i with
 |nil=>exact⟨[],.nil,.slnil⟩
 |no q ih=>cases i with
  |zero=>exact⟨_,.dat r q,List.Sublist.refl _⟩
  |succ i=>obtain⟨aB,h1,h2⟩:=ih i;exact⟨aB,.no h1,h2⟩
 |dat r' q ih=>cases i with
  |zero=>exact⟨_,.dat r q,List.Sublist.refl _⟩
  |succ i=>obtain⟨aB,h1,h2⟩:=ih i;exact⟨aB,.dat r' h1,h2⟩
 |own e r' q ih=>cases i with
  |zero=>exact⟨_,.dat r q,List.sublist_cons_self _ _⟩
  |succ i=>obtain⟨aB,h1,h2⟩:=ih i;exact⟨_::aB,.own e r' h1,h2.cons₂ _⟩
theorem Slots.freeze{K:Frag}{M M':List Addr}{H:Hp}(hM:∀m∈M',m∈M){g:G}{σ:Sg}{As:List Addr}{i:Nat}{l:List D}{a:Addr}(q:Slots K M H g σ As)(e:g[i]?=some (.own l))(e2:σ[i]?=some (some (.ref a)))(na:a∉M')(nd:As.Nodup) :
  ∃aB,Slots K M' H (g.set i (.dat (.lst l))) σ aB/\aB.Sublist As/\a∉aB:=by
 induction q generalizing i with
 |nil=>exact nomatch (show none=some (Slot.own l)from e)
 |no q ih=>cases i with
  |zero=>exact nomatch (show some Slot.no=some (Slot.own l)from e)
  |succ i=>obtain⟨aB,h1,h2,h3⟩:=ih e e2 nd;exact⟨aB,.no h1,h2,h3⟩
 |dat r q ih=>cases i with
  |zero=>exact nomatch (show some (Slot.dat _)=some (Slot.own l)from e)
  |succ i=>obtain⟨aB,h1,h2,h3⟩:=ih e e2 nd;exact⟨aB,.dat (r.stay (au.less hM)) h1,h2,h3⟩
 |@own g σ As b xs ds h r q ih=>cases i with
  |zero=>
   cases (show some (Slot.own _)=some (Slot.own l)from e)
   cases (show some (some (V.ref b))=some (some (V.ref a))from e2)
   exact⟨_,.dat (.lst ⟨na,h⟩ (r.stay (au.less hM))) (q.stay (au.less hM) λ_ _ _ e=>e),List.sublist_cons_self _ _,(aay.mp nd).1⟩
  |succ i=>
   obtain⟨aB,h1,h2,h3⟩:=ih e e2 (aay.mp nd).2
   refine⟨b::aB,.own h (r.stay (au.less hM)) h1,h2.cons₂ _,λhm=>?_⟩
   rcases aaj.mp hm with z |z
   .
    obtain⟨c,xs,z1,z2,_⟩:=q.at (i:=i) e
    cases (show some (some (V.ref c))=some (some (V.ref a))from z1.symm.trans e2)
    exact (aay.mp nd).1 (by rw[<- z];exact z2)
   .
    exact h3 z
theorem Slots.change{K:Frag}{M:List Addr}{H H':Hp}{l':List D}{a:Addr}{xs':List V}(st:au M H M H')(ha:H' a=some (.lst xs'))(r':aI K M H' l' xs'){g:G}{σ:Sg}{As:List Addr}{i:Nat}{l:List D}(q:Slots K M H g σ As)(e:g[i]?=some (.own l))(e2:σ[i]?=some (some (.ref a)))(nd:As.Nodup)
  (k:∀b∈As,b≠a->∀o,H b=some o->H' b=some o):Slots K M H' (g.set i (.own l')) σ As:=by
 induction q generalizing i with
 |nil=>exact nomatch (show none=some (Slot.own l)from e)
 |no q ih=>cases i with
  |zero=>exact nomatch (show some Slot.no=some (Slot.own l)from e)
  |succ i=>exact .no (ih e e2 nd k)
 |dat r q ih=>cases i with
  |zero=>exact nomatch (show some (Slot.dat _)=some (Slot.own l)from e)
  |succ i=>exact .dat (r.stay st) (ih e e2 nd k)
 |@own g σ As b xs ds h r q ih=>cases i with
  |zero=>
   cases (show some (some (V.ref b))=some (some (V.ref a))from e2)
   exact .own ha r' (q.stay st λc hc o e=>k c (aaf _ hc) (λz=>(aay.mp nd).1 (by rw[<- z];exact hc)) o e)
  |succ i=>
   refine .own (k b aah (λz=>?_) _ h) (r.stay st) (ih e e2 (aay.mp nd).2 λc hc=>k c (aaf _ hc))
   obtain⟨c,xs,z1,z2,_⟩:=q.at (i:=i) e
   cases (show some (some (V.ref c))=some (some (V.ref a))from z1.symm.trans e2)
   exact (aay.mp nd).1 (by rw[z];exact z2)
section
variable{z:Z}{g:G}{σ:Sg}{As M:List Addr}{H:Hp}
theorem fQ(h:(g.set i (.dat d))[j]?=some (.own l)):g[j]?=some (.own l)/\j≠i:=by
 by_cases e:i=j
 .
  subst e
  by_cases hi:i<g.length
  .
   rw[aax hi]at h;cases h
  .
   rw[abF.mpr (by rw[aa2];lia)]at h;cases h
 .
  rw[aar e]at h
  exact⟨h,aaX e⟩
theorem S.freeze(s:S z g σ As M H){i:Nat}{l:List D}(hg:g[i]?=some (.own l))(hb:i∉z.bor):∃aB M',S z (g.set i (.dat (.lst l))) σ aB M' H/\au M H M' H:=by
 obtain⟨a,xs,e1,e2,e3,e4⟩:=s.sl.at hg
 have h0:z.H0 a=none:=(s.own i a l hg e1).elim (λq=>absurd q.1 hb) id
 have hM:∀m∈(M.filter λm=>decide (m≠a)),m∈M:=λm hm=>(aaE.mp hm).1
 have na:a∉(M.filter λm=>decide (m≠a)):=λhm=>by
  have:=(aaE.mp hm).2
  simp at this
 obtain⟨aB,q1,q2,q3⟩:=s.sl.freeze hM hg e1 na s.nd
 refine⟨aB,_,⟨q1,s.nd.sublist q2,λb hb=>aaE.mpr ⟨s.sub b (q2.subset hb),?_⟩,λj b l' h1 h2=>s.own j b l' (fQ h1).1 h2,λm hm=>s.live m (hM m hm),s.keep,λm hm=>aaE.mpr ⟨s.iX m hm,?_⟩,s.m0,s.bm,λp hp=>⟨(s.jT p hp).1,?_⟩,s.tab,s.tm,s.tt⟩,au.less hM⟩
 rotate_left 2
 .
  have:i≠p.1:=λe=>hb (by rw[e];exact abb (f:=(·.1)) hp)
  rw[aar this]
  exact (s.jT p hp).2
 .
  have:b≠a:=λe=>q3 (e▸hb)
  simpa using this
 .
  have:m≠a:=λe=>s.m0 m hm (e▸h0)
  simpa using this
theorem S.write(s:S z g σ As M H){i:Nat}{l l':List D}{a:Addr}{xs':List V}(hg:g[i]?=some (.own l))(e1:σ[i]?=some (some (.ref a)))(r:aI z.K M H l' xs'):S z (g.set i (.own l')) σ As M (upd H a (.lst xs'))/\au M H M (upd H a (.lst xs')):=by
 obtain⟨b,xs,e2,e3,e4,e5⟩:=s.sl.at hg
 rw[e1]at e2
 injection e2 with e2;injection e2 with e2;injection e2 with e2
 subst e2
 have st:au M H M (upd H a (.lst xs')):=au.write (s.sub a e3)
 refine⟨⟨s.sl.change st aE (r.stay st) hg e1 s.nd (λb _ ne o e=>by rw[az ne];exact e),s.nd,s.sub,λj b l2 h1 h2=>?_,λm hm=>?_,λb o e hb ht=>?_,s.iX,s.m0,s.bm,λp hp=>⟨(s.jT p hp).1,?_⟩,λp h=>(s.tab p h).keep λb u e nl=>?_,s.tm,s.tt⟩,st⟩
 rotate_left 3
 .
  by_cases hj:i=p.1
  .
   rw[<- hj]
   exact⟨l',aax (aai.mp hg).1⟩
  .
   rw[aar hj]
   exact (s.jT p hp).2
 .
  have:b≠a:=λz2=>by subst z2;rw[e4]at e;cases e;exact nl xs rfl
  rw[az this];exact e
 .
  by_cases hj:i=j
  .
   subst hj
   exact s.own i b l hg h2
  .
   rw[aar hj]at h1
   exact s.own j b l2 h1 h2
 .
  by_cases hm2:m=a
  .
   subst hm2;exact .inl ⟨xs',aE⟩
  .
   rcases s.live m hm with ⟨ys,e⟩ |e
   .
    exact .inl ⟨ys,by rw[az hm2];exact e⟩
   .
    exact .inr e
 .
  have q:=s.keep b o e hb ht
  have:b≠a:=λz2=>by
   subst z2
   rcases s.own i b l hg e1 with w |w
   .
    exact hb w.2
   .
    rw[w]at e;cases e
  rw[az this];exact q
theorem S.gK(s:S z g σ As M H)(hb:i∉z.bor)(r:Rep z.K M H d v):∃aB,S z (g.set i (.dat d)) (σ.set i (some v)) aB M H:=by
 obtain⟨aB,h1,h2⟩:=s.sl.gK r i
 refine⟨aB,h1,s.nd.sublist h2,λa ha=>s.sub a (h2.subset ha),λj b l h3 h4=>?_,s.live,s.keep,s.iX,s.m0,s.bm,λp hp=>?_,s.tab,s.tm,s.tt⟩
 rotate_left
 .
  have:i≠p.1:=λe=>hb (by rw[e];exact abb (f:=(·.1)) hp)
  rw[aar this,aar this]
  exact s.jT p hp
 obtain⟨h5,h6⟩:=fQ h3
 rw[aar (aaX h6)]at h4
 exact s.own j b l h5 h4
theorem Slots.sS{K:Frag}{a:Addr}{xs:List V}{l:List D}(h:H a=some (.lst xs))(r:aI K M H l xs){g:G}{σ:Sg}{As:List Addr}(i:Nat)(q:Slots K M H g σ As)(hi:i<g.length):∃aB,Slots K M H (g.set i (.own l)) (σ.set i (some (.ref a))) aB/\(∀b∈aB,b=a\/b∈As)/\(As.Nodup->a∉As->aB.Nodup):=by
 induction q generalizing i with
 |nil=>exact absurd hi (abV _)
 |no q ih=>cases i with
  |zero=>exact⟨_,.own h r q,λb hb=>aaj.mp hb,λnd na=>aay.mpr ⟨na,nd⟩⟩
  |succ i=>obtain⟨aB,h1,h2,h3⟩:=ih i (abR hi);exact⟨aB,.no h1,h2,h3⟩
 |dat r' q ih=>cases i with
  |zero=>exact⟨_,.own h r q,λb hb=>aaj.mp hb,λnd na=>aay.mpr ⟨na,nd⟩⟩
  |succ i=>obtain⟨aB,h1,h2,h3⟩:=ih i (abR hi);exact⟨aB,.dat r' h1,h2,h3⟩
 |@own g σ As c ys ds e r' q ih=>cases i with
  |zero=>exact⟨_,.own h r q,λb hb=>(aaj.mp hb).imp id (aaf _),λnd na=>aay.mpr ⟨λz=>na (aaf _ z),(aay.mp nd).2⟩⟩
  |succ i=>
   obtain⟨aB,h1,h2,h3⟩:=ih i (abR hi)
   exact⟨c::aB,.own e r' h1,λb hb=>(aaj.mp hb).elim (λz=>.inr (z▸aah)) λz=>(h2 b z).imp id (aaf _),λnd na=>aay.mpr ⟨λz=>(h2 c z).elim (λw=>na (w▸aah)) (aay.mp nd).1,h3 (aay.mp nd).2 λw=>na (aaf _ w)⟩⟩
theorem S.sS(s:S z g σ As M H){i:Nat}{l:List D}{a:Addr}{xs:List V}(hb:i∉z.bor)(hi:i<g.length)(hm:a∈M)(hA:a∉As)(h0:z.H0 a=none)(h:H a=some (.lst xs))(r:aI z.K M H l xs):∃aB,S z (g.set i (.own l)) (σ.set i (some (.ref a))) aB M H:=by
 obtain⟨aB,h1,h2,h3⟩:=s.sl.sS h r i hi
 refine⟨aB,h1,h3 s.nd hA,λb hb=>(h2 b hb).elim (λe=>e▸hm) (s.sub b),λj b l2 h4 h5=>?_,s.live,s.keep,s.iX,s.m0,s.bm,λp hp=>?_,s.tab,s.tm,s.tt⟩
 rotate_left
 .
  have:i≠p.1:=λe=>hb (by rw[e];exact abb (f:=(·.1)) hp)
  rw[aar this,aar this]
  exact s.jT p hp
 by_cases hj:i=j
 .
  subst hj
  rw[aax (by rw[<- s.sl.length];exact hi)]at h5
  injection h5 with h5;injection h5 with h5;injection h5 with h5
  subst h5
  exact .inr h0
 .
  rw[aar hj]at h4 h5
  exact s.own j b l2 h4 h5
end
noncomputable abbrev Kn (z:Z) (g':G) (σ:Sg) (M:List Addr) (H:Hp) (r:R) (Q:VK):Prop:=
 ∀v H' aB M',S z g' σ aB M' H'->au M H M' H'->cL z g' σ aB M' H' r v->Q v H'
noncomputable def aA(X:Cx)(z:Z)(e:Expr)(g:G)(r:R)(g':G):Prop:=
 ∃t,PE X e t/\∀σ As M H Q,S z g σ As M H->Kn z g' σ M H r Q->t σ H Q
def cz(X:Cx)(z:Z)(e:Expr)(g:G)(b:Bool)(g':G):Prop:=
 ∃t,PT X e t/\∀σ As M H (Q:Bool->Hp->Prop),S z g σ As M H->(∀H' aB M',S z g' σ aB M' H'->au M H M' H'->Q b H')->t σ H Q
noncomputable def nJ(X:Cx)(z:Z)(f:Value->Value->Sem Value)(d1 d2:D)(res:R):Prop:=
 ∃r:R2,ni X f r/\∀g σ As M H v1 v2 Q,S z g σ As M H->Pk z.K M H d1 v1->Pk z.K M H d2 v2->Kn z g σ M H res Q->r v1 v2 H Q
noncomputable def Wk(X:Cx)(z:Z)(d1 d2:D)(res:R):Prop:=
 ∃r:R2,Yy X r/\∀g σ As M H v1 v2 Q,S z g σ As M H->Pk z.K M H d1 v1->Pk z.K M H d2 v2->Kn z g σ M H res Q->r v1 v2 H Q
noncomputable def UnD(X:Cx)(z:Z)(f:Value->Sem Value)(d:D)(res:R):Prop:=
 ∃r:V->Hp->VK->Prop,Yu X f r/\∀g σ As M H v Q,S z g σ As M H->Pk z.K M H d v->Kn z g σ M H res Q->r v H Q
noncomputable def pk:R->G->Option D
 |.dat d,_=>some d
 |.new _,_=>none
 |.var i,g=>match g[i]? with |some (.own l)=>some (.lst l) |_=>none
section
variable{X:Cx}{z:Z}{g g' g1 g2:G}{pos:Pos}{a b e:Expr}{r r1 r2:R}{d d1 d2:D}
theorem S.pk(s:S z g2 σ As M2 H2)(st:au M1 H1 M2 H2)(q:cL z g1 σ aM M1 H1 r v)(h:pk r g2=some d):Pk z.K M2 H2 d v:=by
 cases r with
 |dat d'=>
  have e:d'=d:=aa1 h
  subst e
  exact .of (Rep.stay st q)
 |new l=>cases h
 |var i=>
  obtain⟨l,h1,h2⟩:=q
  unfold Ev.pk at h
  dsimp only at h
  split at h
  .
   rename_i l' hg
   have e:=aa1 h
   subst e
   obtain⟨a,xs,e1,e2,e3,e4⟩:=s.sl.at hg
   rw[h2]at e1
   injection e1 with e1;injection e1 with e1
   subst e1
   exact .lst e3 e4
  .
   cases h
theorem Qg{i j}:aA X z (.Constant (.int i) j pos) g (.dat (.int i)) g:=⟨_,DK,λσ As M H Q s k=>k _ _ _ _ s (au.refl _ _) (.int i)⟩
theorem Wm{i j}:aA X z (.Constant (.bool i) j pos) g (.dat (.bl i)) g:=⟨_,Vu,λσ As M H Q s k=>k _ _ _ _ s (au.refl _ _) (.bl i)⟩
theorem Qh{j}:aA X z (.Constant .none j pos) g (.dat .non) g:=⟨_,DN,λσ As M H Q s k=>k _ _ _ _ s (au.refl _ _) .non⟩
theorem Qi{x j}:aA X z (.Constant (.str x) j pos) g (.dat (.str x)) g:=⟨_,O7,λσ As M H Q s k=>k _ _ _ _ s (au.refl _ _) (.str x)⟩
theorem Qj{i:Nat}{x:Str}(hN:X.N[i]?=some x)(hv:nI X.env.scope x)(hd:(x==("__debug__" : Str))=false)(bD:(x==("__classdict__" : Str))=false)(hg:g[i]?=some (.dat d)):aA X z (.Name x pos) g (.dat d) g:=
 ⟨_,dQ hN hv hd bD,λσ As M H Q s k=>let ⟨v,e,r⟩:=s.sl.N1 hg;⟨v,e,k v H As M s (au.refl _ _) r⟩⟩
theorem JQ(hN:X.N[i]?=some x)(hv:nI X.env.scope x)(hd:(x==("__debug__" : Str))=false)(bD:(x==("__classdict__" : Str))=false)(hg:g[i]?=some (.own l)):aA X z (.Name x pos) g (.var i) g:=
 ⟨_,dQ hN hv hd bD,λσ As M H Q s k=>let ⟨a,xs,e,r⟩:=s.sl.at hg;⟨_,e,k _ H As M s (au.refl _ _) ⟨l,hg,e⟩⟩⟩
theorem JR(hg:Gl X x)(hm:X.mg x=some u)(r:RelV v u)(hr:∀M H,Rep z.K M H d v)(hd:(x==("__debug__" : Str))=false):aA X z (.Name x pos) g (.dat d) g:=
 ⟨_,yP hg hm r hd,λσ As M H Q s k=>k _ H As M s (au.refl _ _) (hr M H)⟩
theorem oJ(h:aA X z e g (.new l) g'):aA X z e g (.dat (.lst l)) g':=by
 obtain⟨t,p,q⟩:=h
 refine⟨t,p,λσ As M H Q s k=>q σ As M H Q s λv H' aB M' s' st r=>?_⟩
 obtain⟨a,xs,rfl,hm,hA,h0,ha,rr⟩:=r
 have hM:∀m∈(M'.filter λm=>decide (m≠a)),m∈M':=λm hm=>(aaE.mp hm).1
 have na:a∉(M'.filter λm=>decide (m≠a)):=λhm=>by
  have:=(aaE.mp hm).2
  simp at this
 exact k _ H' aB _ (s'.drop h0 hA) (st.trans (au.less hM)) (.lst ⟨na,ha⟩ (rr.stay (au.less hM)))
theorem Av(h:aA X z e g (.var i) g1)(hg:g1[i]?=some (.own l))(hb:i∉z.bor):aA X z e g (.dat (.lst l)) (g1.set i (.dat (.lst l))):=by
 obtain⟨t,p,q⟩:=h
 refine⟨t,p,λσ As M H Q s k=>q σ As M H Q s λv H' aB M' s' st r=>?_⟩
 obtain⟨l',h1,h2⟩:=r
 obtain⟨bw,M2,s2,aU⟩:=s'.freeze hg hb
 have hi:i<g1.length:=(aai.mp hg).1
 obtain⟨v',e1,e2⟩:=s2.sl.N1 (i:=i) (d:=.lst l) (by rw[aax hi])
 rw[h2]at e1
 injection e1 with e1;injection e1 with e1
 subst e1
 exact k _ H' bw M2 s2 (st.trans aU) e2
theorem Qk(h1:aA X z a g r1 g1)(h2:aA X z b g1 r2 g2)(p1:pk r1 g2=some d1)(p2:pk r2 g2=some d2)(ho:nJ X z (binaryOp op) d1 d2 r):aA X z (.BinOp a op b pos) g r g2:=by
 obtain⟨t1,q1,k1⟩:=h1
 obtain⟨t2,q2,k2⟩:=h2
 obtain⟨rr,o,ko⟩:=ho
 exact⟨_,VL o q1 q2,λσ As M H Q s k=>k1 σ As M H _ s λv1 H1 aM M1 s1 cO R1=>k2 σ aM M1 H1 _ s1 λv2 H2 bw M2 s2 aU R2=>
  ko g2 σ bw M2 H2 v1 v2 Q s2 (s2.pk aU R1 p1) (s2.pk (au.refl _ _) R2 p2) λv H' aB M' s' st' R'=>k v H' aB M' s' (cO.trans (aU.trans st')) R'⟩
theorem Ql(h1:aA X z a g r1 g1)(h2:aA X z b g1 r2 g2)(p1:pk r1 g2=some d1)(p2:pk r2 g2=some d2)(ho:nJ X z (compareOp op) d1 d2 r)(hm:behindInMarks op b=false):aA X z (.Compare a [op] [b] pos) g r g2:=by
 obtain⟨t1,q1,k1⟩:=h1
 obtain⟨t2,q2,k2⟩:=h2
 obtain⟨rr,o,ko⟩:=ho
 exact⟨_,yT o q1 q2 hm,λσ As M H Q s k=>k1 σ As M H _ s λv1 H1 aM M1 s1 cO R1=>k2 σ aM M1 H1 _ s1 λv2 H2 bw M2 s2 aU R2=>
  ko g2 σ bw M2 H2 v1 v2 Q s2 (s2.pk aU R1 p1) (s2.pk (au.refl _ _) R2 p2) λv H' aB M' s' st' R'=>k v H' aB M' s' (cO.trans (aU.trans st')) R'⟩
theorem Wn(h1:aA X z a g r1 g1)(h2:aA X z b g1 r2 g2)(p1:pk r1 g2=some d1)(p2:pk r2 g2=some d2)(ho:Wk X z d1 d2 r)(hs:sM b):aA X z (.Subscript a b pos) g r g2:=by
 obtain⟨t1,q1,k1⟩:=h1
 obtain⟨t2,q2,k2⟩:=h2
 obtain⟨rr,o,ko⟩:=ho
 exact⟨_,Wa o q1 q2 hs,λσ As M H Q s k=>k1 σ As M H _ s λv1 H1 aM M1 s1 cO R1=>k2 σ aM M1 H1 _ s1 λv2 H2 bw M2 s2 aU R2=>
  ko g2 σ bw M2 H2 v1 v2 Q s2 (s2.pk aU R1 p1) (s2.pk (au.refl _ _) R2 p2) λv H' aB M' s' st' R'=>k v H' aB M' s' (cO.trans (aU.trans st')) R'⟩
theorem Wo(h1:aA X z a g r1 g1)(p1:pk r1 g1=some d1)(ho:UnD X z (unaryOp op) d1 r):aA X z (.UnaryOp op a pos) g r g1:=by
 obtain⟨t1,q1,k1⟩:=h1
 obtain⟨rr,o,ko⟩:=ho
 exact⟨_,NQ o q1,λσ As M H Q s k=>k1 σ As M H _ s λv1 H1 aM M1 s1 cO R1=>ko g1 σ aM M1 H1 v1 Q s1 (s1.pk (au.refl _ _) R1 p1) λv H' aB M' s' st' R'=>k v H' aB M' s' (cO.trans st') R'⟩
theorem fG(q:cL z g σ As M H (.dat (.bl c)) v):v=.bl c:=by
 have q':Rep z.K M H (.bl c) v:=q
 cases q'
 rfl
theorem Qm(h1:aA X z a g r1 g1)(h2:aA X z b g1 r2 g2)(p1:pk r1 g2=some d1)(p2:pk r2 g2=some d2)(ho:nJ X z (compareOp op) d1 d2 (.dat (.bl c)))(hm:behindInMarks op b=false):cz X z (.Compare a [op] [b] pos) g c g2:=by
 obtain⟨t1,q1,k1⟩:=h1
 obtain⟨t2,q2,k2⟩:=h2
 obtain⟨rr,o,ko⟩:=ho
 exact⟨_,sH o q1 q2 hm,λσ As M H Q s k=>k1 σ As M H _ s λv1 H1 aM M1 s1 cO R1=>k2 σ aM M1 H1 _ s1 λv2 H2 bw M2 s2 aU R2=>
  ko g2 σ bw M2 H2 v1 v2 _ s2 (s2.pk aU R1 p1) (s2.pk (au.refl _ _) R2 p2) λv H' aB M' s' st' R'=>⟨c,fG R',k H' aB M' s' (cO.trans (aU.trans st'))⟩⟩
theorem Qn(h:cz X z a g c g'):cz X z (.UnaryOp .Not a pos) g (!c) g':=by
 obtain⟨t,q,k⟩:=h
 exact⟨_,DP q,λσ As M H Q s kk=>k σ As M H _ s λH' aB M' s' st=>kk H' aB M' s' st⟩
def nk(X:Cx)(z:Z)(e:Expr)(g:G)(b:Bool)(g':G):Prop:=
 ∃t,PW X e t/\∀σ As M H (Q:Bool->Hp->Prop),S z g σ As M H->(∀H' aB M',S z g' σ aB M' H'->au M H M' H'->Q b H')->t σ H Q
theorem nk.tr(h:nk X z e g c g'):cz X z e g c g':=let ⟨t,q,k⟩:=h;⟨t,q.pt,k⟩
theorem JT(h:cz X z a g c g'):nk X z (.BoolOp .And [a] pos) g c g':=let ⟨t,q,k⟩:=h;⟨t,pw_and1 q,k⟩
theorem Qo(h:cz X z a g c g'):nk X z (.BoolOp .Or [a] pos) g c g':=let ⟨t,q,k⟩:=h;⟨t,pw_or1 q,k⟩
noncomputable def tNo:TT:=λ_ _ _=>False
theorem pw_never:PW X e tNo:=λ_ _ _ _ _ _ _ h=>h.elim
theorem j5:PE X e (λ_ _ _=>False):=λ_ _ _ _ _ _ h=>h.elim
theorem JV{rest:List Expr}(h:cz X z a g false g1):nk X z (.BoolOp .And (a::b::rest) pos) g false g1:=by
 obtain⟨t,q,k⟩:=h
 exact⟨_,pw_and q pw_never,λσ As M H Q s kk=>k σ As M H _ s λH' aB M' s' st=>qA (kk H' aB M' s' st)⟩
theorem JW{rest:List Expr}{c:Bool}(h:cz X z a g true g1)(h2:nk X z (.BoolOp .And (b::rest) pos) g1 c g2):nk X z (.BoolOp .And (a::b::rest) pos) g c g2:=by
 obtain⟨t,q,k⟩:=h
 obtain⟨t2,q2,k2⟩:=h2
 exact⟨_,pw_and q q2,λσ As M H Q s kk=>k σ As M H _ s λH' aB M' s' st=>lg (k2 σ aB M' H' Q s' λH2 bw M2 s2 aU=>kk H2 bw M2 s2 (st.trans aU))⟩
theorem Qp{rest:List Expr}(h:cz X z a g true g1):nk X z (.BoolOp .Or (a::b::rest) pos) g true g1:=by
 obtain⟨t,q,k⟩:=h
 exact⟨_,pw_or q pw_never,λσ As M H Q s kk=>k σ As M H _ s λH' aB M' s' st=>lg (kk H' aB M' s' st)⟩
theorem Qq{rest:List Expr}{c:Bool}(h:cz X z a g false g1)(h2:nk X z (.BoolOp .Or (b::rest) pos) g1 c g2):nk X z (.BoolOp .Or (a::b::rest) pos) g c g2:=by
 obtain⟨t,q,k⟩:=h
 obtain⟨t2,q2,k2⟩:=h2
 exact⟨_,pw_or q q2,λσ As M H Q s kk=>k σ As M H _ s λH' aB M' s' st=>qA (k2 σ aB M' H' Q s' λH2 bw M2 s2 aU=>kk H2 bw M2 s2 (st.trans aU))⟩
theorem Em(h:aA X z a g r g'):aA X z (.BoolOp op [a] pos) g r g':=let ⟨t,q,k⟩:=h;⟨t,O9 q,k⟩
theorem JX{rest:List Expr}(h:aA X z a g (.dat (.bl false)) g1):aA X z (.BoolOp .And (a::b::rest) pos) g (.dat (.bl false)) g1:=by
 obtain⟨t,q,k⟩:=h
 exact⟨_,DQ q j5,λσ As M H Q s kk=>k σ As M H _ s λv H' aB M' s' st R=>⟨false,fG R,qA (kk _ H' aB M' s' st (.bl false))⟩⟩
theorem JZ{rest:List Expr}(h:aA X z a g (.dat (.bl true)) g1)(h2:aA X z (.BoolOp .And (b::rest) pos) g1 r g2):aA X z (.BoolOp .And (a::b::rest) pos) g r g2:=by
 obtain⟨t,q,k⟩:=h
 obtain⟨t2,q2,k2⟩:=h2
 exact⟨_,DQ q q2,λσ As M H Q s kk=>k σ As M H _ s λv H' aB M' s' st R=>⟨true,fG R,lg (k2 σ aB M' H' Q s' λv2 H2 bw M2 s2 aU=>kk v2 H2 bw M2 s2 (st.trans aU))⟩⟩
theorem Qs{rest:List Expr}(h:aA X z a g (.dat (.bl true)) g1):aA X z (.BoolOp .Or (a::b::rest) pos) g (.dat (.bl true)) g1:=by
 obtain⟨t,q,k⟩:=h
 exact⟨_,NK q j5,λσ As M H Q s kk=>k σ As M H _ s λv H' aB M' s' st R=>⟨true,fG R,lg (kk _ H' aB M' s' st (.bl true))⟩⟩
theorem Qt{rest:List Expr}(h:aA X z a g (.dat (.bl false)) g1)(h2:aA X z (.BoolOp .Or (b::rest) pos) g1 r g2):aA X z (.BoolOp .Or (a::b::rest) pos) g r g2:=by
 obtain⟨t,q,k⟩:=h
 obtain⟨t2,q2,k2⟩:=h2
 exact⟨_,NK q q2,λσ As M H Q s kk=>k σ As M H _ s λv H' aB M' s' st R=>⟨false,fG R,qA (k2 σ aB M' H' Q s' λv2 H2 bw M2 s2 aU=>kk v2 H2 bw M2 s2 (st.trans aU))⟩⟩
theorem Qu(h:aA X z a g (.dat (.bl c)) g1):aA X z (.UnaryOp .Not a pos) g (.dat (.bl (!c))) g1:=by
 obtain⟨t,q,k⟩:=h
 exact⟨_,Pa q,λσ As M H Q s kk=>k σ As M H _ s λv H' aB M' s' st R=>⟨c,fG R,kk _ H' aB M' s' st (.bl _)⟩⟩
theorem Qv(h:cz X z c g true g1)(h2:aA X z a g1 r g2):aA X z (.IfExp c a b pos) g r g2:=by
 obtain⟨t,q,k⟩:=h
 obtain⟨t2,q2,k2⟩:=h2
 exact⟨_,uF q q2 j5,λσ As M H Q s kk=>k σ As M H _ s λH' aB M' s' st=>lg (k2 σ aB M' H' Q s' λv2 H2 bw M2 s2 aU=>kk v2 H2 bw M2 s2 (st.trans aU))⟩
theorem Qw(h:cz X z c g false g1)(h2:aA X z b g1 r g2):aA X z (.IfExp c a b pos) g r g2:=by
 obtain⟨t,q,k⟩:=h
 obtain⟨t2,q2,k2⟩:=h2
 exact⟨_,uF q j5 q2,λσ As M H Q s kk=>k σ As M H _ s λH' aB M' s' st=>qA (k2 σ aB M' H' Q s' λv2 H2 bw M2 s2 aU=>kk v2 H2 bw M2 s2 (st.trans aU))⟩
inductive jB(z:Z)(σ:Sg)(M:List Addr)(H:Hp):List R->List V->Prop
 |nil:jB z σ M H [] []
 |dat {d:D}{v:V}{rs:List R}{vs:List V}:Rep z.K M H d v->jB z σ M H rs vs->jB z σ M H (.dat d::rs) (v::vs)
 |var {i:Nat}{v:V}{rs:List R}{vs:List V}:σ[i]?=some (some v)->jB z σ M H rs vs->jB z σ M H (.var i::rs) (v::vs)
noncomputable def cG(X:Cx)(z:Z)(es:List Expr)(g:G)(rs:List R)(g':G):Prop:=
 ∃t,PA X es t/\∀σ As M H (Q:List V->Hp->Prop),S z g σ As M H->(∀vs H' aB M',S z g' σ aB M' H'->au M H M' H'->jB z σ M' H' rs vs->Q vs H')->t σ H Q
theorem dU:cG X z [] g [] g:=⟨_,gJ,λσ As M H Q s k=>k [] H As M s (au.refl _ _) .nil⟩
theorem cH(h:aA X z e g (.dat d) g1)(h2:cG X z es g1 rs g2)(hs:starEach (e::es) X.env=(false,eval e X.env)::starEach es X.env):cG X z (e::es) g (.dat d::rs) g2:=by
 obtain⟨t,q,k⟩:=h
 obtain⟨t2,q2,k2⟩:=h2
 exact⟨_,bG q q2 hs,λσ As M H Q s kk=>k σ As M H _ s λv H' aB M' s' st R=>k2 σ aB M' H' _ s' λvs H2 bw M2 s2 aU R2=>kk _ H2 bw M2 s2 (st.trans aU) (.dat (Rep.stay aU R) R2)⟩
theorem En(h:aA X z e g (.var i) g1)(h2:cG X z es g1 rs g2)(hs:starEach (e::es) X.env=(false,eval e X.env)::starEach es X.env):cG X z (e::es) g (.var i::rs) g2:=by
 obtain⟨t,q,k⟩:=h
 obtain⟨t2,q2,k2⟩:=h2
 exact⟨_,bG q q2 hs,λσ As M H Q s kk=>k σ As M H _ s λv H' aB M' s' st ⟨_,_,R⟩=>k2 σ aB M' H' _ s' λvs H2 bw M2 s2 aU R2=>kk _ H2 bw M2 s2 (st.trans aU) (.var R R2)⟩
inductive J0(K:Frag)(M:List Addr)(H:Hp):List D->List V->Prop
 |nil:J0 K M H [] []
 |cons {d:D}{v:V}{ds:List D}{vs:List V}:Pk K M H d v->J0 K M H ds vs->J0 K M H (d::ds) (v::vs)
noncomputable def uO:List R->G->Option (List D)
 | [],_=>some []
 |r::rs,g=>match pk r g,uO rs g with
  |some d,some ds=>some (d::ds)
  |_,_=>none
theorem S.uO(s:S z g σ As M H)(q:jB z σ M H rs vs)(e:uO rs g=some ds):J0 z.K M H ds vs:=by
 induction q generalizing ds with
 |nil=>cases e;exact .nil
 |@dat d v rs vs r q ih=>
  unfold Ev.uO at e
  cases e2:Ev.uO rs g with
  |none=>rw[e2]at e;cases e
  |some ds=>rw[e2]at e;cases e;exact .cons (.of r) (ih e2)
 |@var i v rs vs r q ih=>
  unfold Ev.uO at e
  cases e1:Ev.pk (.var i) g with
  |none=>rw[e1]at e;cases e
  |some d=>
   cases e2:Ev.uO rs g with
   |none=>rw[e1,e2]at e;cases e
   |some ds=>
    rw[e1,e2]at e
    cases e
    unfold Ev.pk at e1
    dsimp only at e1
    split at e1
    .
     rename_i l hg
     cases e1
     obtain⟨a,xs,h1,h2,h3,h4⟩:=s.sl.at hg
     rw[r]at h1
     injection h1 with h1;injection h1 with h1
     subst h1
     exact .cons (.lst h3 h4) (ih e2)
    .
     cases e1
noncomputable def uP:List R->Option (List D)
 | []=>some []
 |.dat d::rs=>match uP rs with |some ds=>some (d::ds) |none=>none
 |_::_=>none
theorem zg(q:jB z σ M H rs vs)(e:uP rs=some ds):aI z.K M H ds vs:=by
 induction q generalizing ds with
 |nil=>cases e;exact .nil
 |@dat d v rs vs r q ih=>
  unfold uP at e
  cases e2:uP rs with
  |none=>rw[e2]at e;cases e
  |some ds=>rw[e2]at e;cases e;exact .cons r (ih e2)
 |var _ _ _=>cases e
theorem jl(h:n<=16777216):n<=sizeLine:=by rw[aaY];exact h
theorem Qx{x1}(h:cG X z es g rs g')(hd:uP rs=some ds)(hl:ds.length<=16777216):aA X z (.Tuple es x1 pos) g (.dat (.tup ds)) g':=by
 obtain⟨t,q,k⟩:=h
 refine⟨_,DY q,λσ As M H Q s kk=>k σ As M H _ s λvs H' aB M' s' st R=>?_⟩
 have rr:=zg R hd
 refine⟨by rw[<- rr.length];exact jl hl,λp hp=>kk _ _ aB M' (s'.laid hp) (st.trans (au.laid hp)) (.tup (.inl ⟨s'.fresh hp,.inl aE⟩) (rr.stay (au.laid hp)))⟩
theorem Qy(h:cG X z es g rs g')(hd:uP rs=some ds)(hl:ds.length<=16777216):aA X z (.List es pos) g (.new ds) g':=by
 obtain⟨t,q,k⟩:=h
 refine⟨_,Ea q,λσ As M H Q s kk=>k σ As M H _ s λvs H' aB M' s' st R=>?_⟩
 have rr:=zg R hd
 refine⟨by rw[<- rr.length];exact jl hl,λp hp=>kk _ _ aB (p::M') (s'.aZ hp) (st.trans (au.aZ hp)) ⟨p,vs,rfl,aah,λhA=>s'.fresh hp (s'.sub p hA),s'.cQ hp,aE,rr.stay (au.aZ hp)⟩⟩
noncomputable def CallD(X:Cx)(z:Z)(f:Value)(ds:List D)(res:R):Prop:=
 ∃r,fF X f r/\∀g σ As M H vs Q,S z g σ As M H->J0 z.K M H ds vs->Kn z g σ M H res Q->r vs H Q
theorem fS{x:Str}{id:String}{p:Pos}{es:List Expr}{rs:List R}{ds:List D}(h:cG X z (e::es) g rs g')(hp:uO rs g'=some ds)(hc:CallD X z (.builtin id) ds r)(hg:Gl X x)(hm:X.mg x=none)(hv:bootBuiltins x=some (.builtin id))(hn:x≠ "__name__")(jy:(x==("__debug__" : Str))=false)
  (he:starEach (e::es) X.env=(false,eval e X.env)::starEach es X.env) (iu:(backTo pos (starEach es X.env)).any (·.1)=false):aA X z (.Call (.Name x p) (e::es) [] pos) g r g':=by
 obtain⟨t,q,k⟩:=h
 obtain⟨rr,c,kc⟩:=hc
 exact⟨_,jZ c hg hm hv q hn jy he iu,λσ As M H Q s kk=>k σ As M H _ s λvs H' aB M' s' st R=>kc g' σ aB M' H' vs Q s' (s'.uO R hp) λv H2 bw M2 s2 aU R2=>kk v H2 bw M2 s2 (st.trans aU) R2⟩
theorem lq(h:cG X z (e::es) g rs g')(hp:uO rs g'=some ds)(hc:CallD X z (.type T) ds r)(hg:Gl X x)(hm:X.mg x=none)(hv:bootBuiltins x=some (.type T))(hn:x≠ "__name__")(jy:(x==("__debug__" : Str))=false)
  (he:starEach (e::es) X.env=(false,eval e X.env)::starEach es X.env) (iu:(backTo pos (starEach es X.env)).any (·.1)=false):aA X z (.Call (.Name x p) (e::es) [] pos) g r g':=by
 obtain⟨t,q,k⟩:=h
 obtain⟨rr,c,kc⟩:=hc
 exact⟨_,Am c hg hm hv q hn jy he iu,λσ As M H Q s kk=>k σ As M H _ s λvs H' aB M' s' st R=>kc g' σ aB M' H' vs Q s' (s'.uO R hp) λv H2 bw M2 s2 aU R2=>kk v H2 bw M2 s2 (st.trans aU) R2⟩
end
mutual
noncomputable def bL:D->D->Bool
 |.non,.non=>true
 |.bl a,.bl b=>a==b
 |.bl a,.int j=>(if a then 1 else 0)==j
 |.int i,.bl b=>i==(if b then 1 else 0)
 |.int i,.int j=>i==j
 |.str x,.str y=>x==y
 |.tup l,.tup m=>dw l m
 |.lst l,.lst m=>dw l m
 |.lst l,.fix m=>dw l m
 |.fix l,.lst m=>dw l m
 |.fix l,.fix m=>dw l m
 |_,_=>false
noncomputable def dw:List D->List D->Bool
 | [],[]=>true
 |a::l,b::m=>bL a b&&dw l m
 |_,_=>false
end
mutual
noncomputable def dep:D->Nat
 |.tup l=>deps l+1
 |.lst l=>deps l+1
 |.fix l=>deps l+1
 |_=>0
noncomputable def deps:List D->Nat
 | []=>0
 |d::l=>max (dep d) (deps l)
end
mutual
noncomputable def fO:D->Bool
 |.tup l=>fD l
 |.lst l=>fD l
 |.fix l=>fD l
 |.emp=>false
 |.mC _=>false
 |_=>true
noncomputable def fD:List D->Bool
 | []=>true
 |d::l=>fO d&&fD l
end
mutual
inductive Dv(h:Heap):D->Value->Prop
 |non:Dv h .non .none
 |bl (b:Bool):Dv h (.bl b) (.bool b)
 |int (i:Int) (t:Tok):Dv h (.int i) (.int i t)
 |str (x:Str) (t:Tok):Dv h (.str x) (.str x t)
 |tup {l:List D}{a:Addr}{us:List Value}:IsTup h a us.toArray->mF h l us->Dv h (.tup l) (.ref a)
 |lst {l:List D}{a:Addr}{us:List Value}:h.IsList a us.toArray->mF h l us->Dv h (.lst l) (.ref a)
 |fix {l:List D}{a:Addr}{us:List Value}:h.IsList a us.toArray->mF h l us->Dv h (.fix l) (.ref a)
inductive mF(h:Heap):List D->List Value->Prop
 |nil:mF h [] []
 |cons {d:D}{ds:List D}{u:Value}{us:List Value}:Dv h d u->mF h ds us->mF h (d::ds) (u::us)
end
section
variable{X:Cx}{ah:List (Addr×Obj)}{σ:Sg}{M:List Addr}{H:Hp}{s:Shared}
theorem Rep.dv2(I:Inv X ah σ H s)(q:Rep X.K M H d v):∀u,RelV v u->fO d=true->Dv s.heap d u:=by
 refine Rep.rec (motive_1:=λd v _=>∀u,RelV v u->fO d=true->Dv s.heap d u) (motive_2:=λds vs _=>∀us,Vals vs us->fD ds=true->mF s.heap ds us) ?_ ?_ ?_ ?_ ?_ ?_ ?_ ?_ ?_ ?_ ?_ q
 .
  intro u r _;cases r;exact .non
 .
  intro b u r _;cases r;exact .bl b
 .
  intro i u r _;obtain⟨t,rfl⟩:=r;exact .int i t
 .
  intro x u r _;obtain⟨t,rfl⟩:=r;exact .str x t
 .
  intro l a xs h _ ih u r p
  cases r
  obtain⟨its,rv,ht,hz⟩:=I.tuple h.sq
  exact .tup ht (ih _ rv p)
 .
  intro l a xs h _ ih u r p
  cases r
  obtain⟨its,rv,ht,hz⟩:=I.list (cK.of h.2)
  exact .lst ht.isList (ih _ rv p)
 .
  intro l a xs h _ ih u r p
  cases r
  obtain⟨its,rv,ht,hz⟩:=I.list h.sq
  exact .fix ht.isList (ih _ rv p)
 .
  intro a _ _ u _ p;exact Bool.noConfusion (show false=true from p)
 .
  intro C a _ _ _ u _ p;exact Bool.noConfusion (show false=true from p)
 .
  intro us r _;cases r;exact .nil
 .
  intro d ds x xs _ _ i1 i2 us r p
  cases r with
  |cons r1 r2=>
   have p:(fO d&&fD ds)=true:=p
   rw[aao]at p
   exact .cons (i1 _ r1 p.1) (i2 _ r2 p.2)
theorem Rep.dv(I:Inv X ah σ H s)(q:Rep X.K M H d v)(r:RelV v u)(p:fO d=true):Dv s.heap d u:=q.dv2 I u r p
theorem aI.dv(I:Inv X ah σ H s)(q:aI X.K M H ds vs)(r:Vals vs us)(p:fD ds=true):mF s.heap ds us:=by
 induction ds generalizing vs us with
 |nil=>cases q;cases r;exact .nil
 |cons d ds ih=>cases q with |cons q1 q2=>cases r with |cons r1 r2=>
  have p:(fO d&&fD ds)=true:=p
  rw[aao]at p
  exact .cons (q1.dv I r1 p.1) (ih q2 r2 p.2)
theorem Pk.dv(I:Inv X ah σ H s)(h:Pk X.K M H d v)(r:RelV v u)(p:fO d=true):Dv s.heap d u:=by
 cases h with
 |of q=>exact q.dv I r p
 |lst h q=>
  cases r
  obtain⟨its,rv,ht,hz⟩:=I.list (cK.of h)
  exact .lst ht.isList (aI.dv I q rv (by simpa [fO]using p))
end
theorem mF.length(q:mF h l us):l.length=us.length:=by
 induction l generalizing us with
 |nil=>cases q;rfl
 |cons d l ih=>cases q with |cons a b=>exact congrArg (· + 1) (ih b)
theorem rm{h:Heap}{a:Addr}{us ws:List Value}(x:IsTup h a us.toArray)(y:IsTup h a ws.toArray):us=ws:=by
 obtain⟨o,e,_,n,d⟩:=x
 obtain⟨o',e',_,n',d'⟩:=y
 rw[e]at e';cases e'
 rw[d]at d'
 injection d' with d1 _
 simpa using congrArg Array.toList d1
theorem bO{h:Heap}{a:Addr}{us ws:List Value}(x:h.IsList a us.toArray)(y:h.IsList a ws.toArray):us=ws:=by
 obtain⟨o,e,_,n,d⟩:=x
 obtain⟨o',e',_,n',d'⟩:=y
 rw[e]at e';cases e'
 rw[d]at d'
 injection d' with d1 _
 simpa using congrArg Array.toList d1
theorem dM(x:IsTup h a us)(y:h.IsList a ws):False:=by
 obtain⟨o,e,c,_⟩:=x
 obtain⟨o',e',c',_⟩:=y
 rw[e]at e';cases e'
 rw[c]at c'
 injection c' with c'
 exact absurd c' (by decide)
theorem Eo{h:Heap}{d1:D}{u:Value}(q:Dv h d1 u):∀d2,Dv h d2 u->bL d1 d2=true:=by
 refine Dv.rec (motive_1:=λd1 u _=>∀d2,Dv h d2 u->bL d1 d2=true) (motive_2:=λl us _=>∀m,mF h m us->dw l m=true) ?_ ?_ ?_ ?_ ?_ ?_ ?_ ?_ ?_ q
 .
  intro d2 q;cases q;rfl
 .
  intro b d2 q;cases q;exact acz b
 .
  intro i t d2 q;cases q;exact acz i
 .
  intro x t d2 q;cases q;exact acz x
 .
  intro l a us x _ ih d2 q
  cases q with
  |tup y q'=>cases rm x y;exact ih _ q'
  |lst y _=>exact (dM x y).elim
  |fix y _=>exact (dM x y).elim
 .
  intro l a us x _ ih d2 q
  cases q with
  |tup y _=>exact (dM y x).elim
  |lst y q'=>cases bO x y;exact ih _ q'
  |fix y q'=>cases bO x y;exact ih _ q'
 .
  intro l a us x _ ih d2 q
  cases q with
  |tup y _=>exact (dM y x).elim
  |lst y q'=>cases bO x y;exact ih _ q'
  |fix y q'=>cases bO x y;exact ih _ q'
 .
  intro m q;cases q;rfl
 .
  intro d ds u us _ _ i1 i2 m q
  cases q with
  |@cons d' m _ _ b q'=>
   show (bL d d'&&dw ds m)=true
   rw[i1 _ b,i2 _ q']
   rfl
theorem J1(q:Dv h d1 u)(q':Dv h d2 u):bL d1 d2=true:=Eo q d2 q'
noncomputable def N2(l m:List D)(j:Nat):Bool:=match l[j]?,m[j]? with |some a,some b=>bL a b |_,_=>false
theorem oK(l m:List D)(h:l.length=m.length):(List.range l.length).all (N2 l m)=dw l m:=by
 induction l generalizing m with
 |nil=>cases m with
  |nil=>rfl
  |cons _ _=>cases h
 |cons a l ih=>cases m with
  |nil=>cases h
  |cons b m=>
   rw[aaQ,List.range_succ_eq_map,List.all_cons,List.all_map]
   have e:(N2 (a::l) (b::m) ∘ Nat.succ)=N2 l m:=rfl
   rw[e,ih m (acs h)]
   rfl
theorem oM(l m:List D)(h:l.length≠m.length):dw l m=false:=by
 induction l generalizing m with
 |nil=>cases m with
  |nil=>exact absurd rfl h
  |cons _ _=>rfl
 |cons a l ih=>cases m with
  |nil=>rfl
  |cons b m=>
   show (bL a b&&dw l m)=false
   rw[ih m (λe=>h (congrArg (· + 1) e)),Bool.and_false]
theorem uQ(l m:List D):((List.range (min l.length m.length)).all (N2 l m)&&l.length==m.length)=dw l m:=by
 by_cases h:l.length=m.length
 .
  rw[h,Nat.min_self,<- h,oK l m h]
  simp
 .
  rw[oM l m h]
  have:(l.length==m.length)=false:=by simpa using h
  rw[this,Bool.and_false]
theorem oN{l:List D}{j:Nat}{d:D}(e:l[j]?=some d):dep d<=deps l:=by
 induction l generalizing j with
 |nil=>exact nomatch (show none=some d from e)
 |cons d' l ih=>cases j with
  |zero=>cases (show some d'=some d from e);exact Nat.le_max_left _ _
  |succ j=>exact aaI (ih (show l[j]?=some d from e)) (Nat.le_max_right _ _)
theorem mF.get{h:Heap}{l:List D}{us:List Value}{j:Nat}{u:Value}(q:mF h l us)(e:us[j]?=some u):∃d,l[j]?=some d/\Dv h d u:=by
 induction l generalizing us j with
 |nil=>cases q;exact nomatch (show none=some u from e)
 |cons d' l ih=>cases q with |@cons _ _ u' us a b=>cases j with
  |zero=>cases (show some u'=some u from e);exact⟨_,rfl,a⟩
  |succ j=>
   obtain⟨d,h⟩:=ih (j:=j) b e
   exact⟨d,h⟩
theorem in1_units(A:Around):A.in1.units=A.units+1:=rfl
section
variable{A:Around}{s:Shared}{l b:Addr}{us ws:List Value}{ls ms:List D}
theorem j6(hl:s.heap.IsList l us.toArray)(hb:s.heap.IsList b ws.toArray)(q:mF s.heap ls us)(q':mF s.heap ms ws)(hu:A.units<cLine)
  (he:∀(j:Nat) d1 d2 u1 u2,ls[j]?=some d1->Dv s.heap d1 u1->Dv s.heap d2 u2->SeqAt.EqAt A.in1 s u1 u2 (bL d1 d2)):SeqAt.RcAt A s (.ref l) (.ref b) (dw ls ms):=by
 have h1:=q.length
 have h2:=q'.length
 by_cases h:ls.length=ms.length
 .
  rw[<- oK ls ms h]
  have e:us.toArray.size=ls.length:=by rw[aag,h1]
  rw[<- e]
  refine SeqAt.RcAt.lists hl hb (by rw[aag,aag];lia) hu λj g1 g2=>?_
  rw[aag]at g1 g2
  obtain⟨d1,e1,v1⟩:=q.get (j:=j) (u:=us[j]) (by simp[g1])
  obtain⟨d2,e2,v2⟩:=q'.get (j:=j) (u:=ws[j]) (by simp[g2])
  have:=he j d1 d2 us[j] ws[j] e1 v1 v2
  simpa [N2,e1,e2]using this
 .
  rw[oM ls ms h]
  refine SeqAt.RcAt.lists_lengths hl hb ?_ hu
  rw[aag,aag]
  simp only[bne_iff_ne]
  lia
theorem Aw(hl:IsTup s.heap l us.toArray)(hb:IsTup s.heap b ws.toArray)(q:mF s.heap ls us)(q':mF s.heap ms ws)(hu:A.units<cLine)
  (he:∀(j:Nat) d1 d2 u1 u2,ls[j]?=some d1->Dv s.heap d1 u1->Dv s.heap d2 u2->SeqAt.EqAt A.in1 s u1 u2 (bL d1 d2)):SeqAt.RcAt A s (.ref l) (.ref b) (dw ls ms):=by
 have h1:=q.length
 have h2:=q'.length
 have e:us.toArray.size=ls.length:=by rw[aag,h1]
 have e':ws.toArray.size=ms.length:=by rw[aag,h2]
 rw[<- uQ,<- e,<- e']
 refine SeqAt.RcAt.tuples hl hb hu λj g1 g2=>?_
 rw[aag]at g1 g2
 obtain⟨d1,e1,v1⟩:=q.get (j:=j) (u:=us[j]) (by simp[g1])
 obtain⟨d2,e2,v2⟩:=q'.get (j:=j) (u:=ws[j]) (by simp[g2])
 have:=he j d1 d2 us[j] ws[j] e1 v1 v2
 simpa [N2,e1,e2]using this
theorem iD(x:Dv s.heap d1 (.ref l))(y:Dv s.heap d2 (.ref b))(h:SeqAt.RcAt A s (.ref l) (.ref b) (bL d1 d2)):SeqAt.EqAt A s (.ref l) (.ref b) (bL d1 d2):=by
 by_cases e:l=b
 .
  subst e
  rw[J1 x y]
  exact .same _
 .
  exact .of_refs e h
end
theorem Ep{s:Shared}:∀(n:Nat) {d1 d2:D}{u1 u2:Value}{A:Around},dep d1<=n->Dv s.heap d1 u1->Dv s.heap d2 u2->A.units+n<cLine->SeqAt.EqAt A s u1 u2 (bL d1 d2)/\SeqAt.RcAt A s u1 u2 (bL d1 d2):=by
 intro n
 induction n with
 |zero=>
  intro d1 d2 u1 u2 A hn x y hu
  have aW:A.units<cLine:=by lia
  cases x with
  |tup h q=>exact absurd hn (Nat.not_succ_le_zero _)
  |lst h q=>exact absurd hn (Nat.not_succ_le_zero _)
  |fix h q=>exact absurd hn (Nat.not_succ_le_zero _)
  |non=>
   cases y with
   |non=>exact⟨.same _,.none_none⟩
   |bl c'=>exact⟨.none_bool c',.none_bool c'⟩
   |int c' t'=>exact⟨.none_int c' t',.none_int c' t'⟩
   |str c' t'=>exact⟨.none_str c' t',.none_str c' t'⟩
   |tup h' q'=>exact⟨.none_tuple h' aW,.none_tuple h' aW⟩
   |lst h' q'=>exact⟨.none_list h' aW,.none_list h' aW⟩
   |fix h' q'=>exact⟨.none_list h' aW,.none_list h' aW⟩
  |bl c=>
   cases y with
   |non=>exact⟨.bool_none c,.bool_none c⟩
   |bl c'=>exact⟨.bool_bool c c',.bool_bool c c'⟩
   |int c' t'=>exact⟨.bool_int c c' t',.bool_int c c' t'⟩
   |str c' t'=>exact⟨.bool_str c c' t',.bool_str c c' t'⟩
   |tup h' q'=>exact⟨.bool_tuple c h' aW,.bool_tuple c h' aW⟩
   |lst h' q'=>exact⟨.bool_list c h' aW,.bool_list c h' aW⟩
   |fix h' q'=>exact⟨.bool_list c h' aW,.bool_list c h' aW⟩
  |int c t=>
   cases y with
   |non=>exact⟨.int_none c t,.int_none c t⟩
   |bl c'=>exact⟨.int_bool c t c',.int_bool c t c'⟩
   |int c' t'=>exact⟨.int_int c t c' t',.int_int c t c' t'⟩
   |str c' t'=>exact⟨.int_str c t c' t',.int_str c t c' t'⟩
   |tup h' q'=>exact⟨.int_tuple c t h' aW,.int_tuple c t h' aW⟩
   |lst h' q'=>exact⟨.int_list c t h' aW,.int_list c t h' aW⟩
   |fix h' q'=>exact⟨.int_list c t h' aW,.int_list c t h' aW⟩
  |str c t=>
   cases y with
   |non=>exact⟨.str_none c t,.str_none c t⟩
   |bl c'=>exact⟨.str_bool c t c',.str_bool c t c'⟩
   |int c' t'=>exact⟨.str_int c t c' t',.str_int c t c' t'⟩
   |str c' t'=>exact⟨.str_str c t c' t',.str_str c t c' t'⟩
   |tup h' q'=>exact⟨.str_tuple c t h' aW,.str_tuple c t h' aW⟩
   |lst h' q'=>exact⟨.str_list c t h' aW,.str_list c t h' aW⟩
   |fix h' q'=>exact⟨.str_list c t h' aW,.str_list c t h' aW⟩
 |succ n ih=>
  intro d1 d2 u1 u2 A hn x y hu
  have aW:A.units<cLine:=by lia
  have el:∀{l:List D},deps l<=n->∀(j:Nat) d1 d2 u1 u2,l[j]?=some d1->Dv s.heap d1 u1->Dv s.heap d2 u2->SeqAt.EqAt A.in1 s u1 u2 (bL d1 d2):=λhl j d1 d2 u1 u2 e v1 v2=>
   (ih (aaI (oN e) hl) v1 v2 (by rw[in1_units];lia)).1
  cases x with
  |@tup l0 a0 us0 h q=>
   have hn':deps l0<=n:=ach hn
   have x:=Dv.tup h q
   cases y with
   |tup h' q'=>have r:=Aw h h' q q' aW (el hn');exact⟨iD x (.tup h' q') r,r⟩
   |lst h' q'=>exact⟨.tuple_list h h' aW,.tuple_list h h' aW⟩
   |fix h' q'=>exact⟨.tuple_list h h' aW,.tuple_list h h' aW⟩
   |non=>exact⟨.tuple_none h aW,.tuple_none h aW⟩
   |bl b=>exact⟨.tuple_bool b h aW,.tuple_bool b h aW⟩
   |int b t=>exact⟨.tuple_int b t h aW,.tuple_int b t h aW⟩
   |str b t=>exact⟨.tuple_str b t h aW,.tuple_str b t h aW⟩
  |@lst l0 a0 us0 h q=>
   have hn':deps l0<=n:=ach hn
   have x:=Dv.lst h q
   cases y with
   |tup h' q'=>exact⟨.list_tuple h h' aW,.list_tuple h h' aW⟩
   |lst h' q'=>have r:=j6 h h' q q' aW (el hn');exact⟨iD x (.lst h' q') r,r⟩
   |fix h' q'=>have r:=j6 h h' q q' aW (el hn');exact⟨iD x (.fix h' q') r,r⟩
   |non=>exact⟨.list_none h aW,.list_none h aW⟩
   |bl b=>exact⟨.list_bool b h aW,.list_bool b h aW⟩
   |int b t=>exact⟨.list_int b t h aW,.list_int b t h aW⟩
   |str b t=>exact⟨.list_str b t h aW,.list_str b t h aW⟩
  |@fix l0 a0 us0 h q=>
   have hn':deps l0<=n:=ach hn
   have x:=Dv.fix h q
   cases y with
   |tup h' q'=>exact⟨.list_tuple h h' aW,.list_tuple h h' aW⟩
   |lst h' q'=>have r:=j6 h h' q q' aW (el hn');exact⟨iD x (.lst h' q') r,r⟩
   |fix h' q'=>have r:=j6 h h' q q' aW (el hn');exact⟨iD x (.fix h' q') r,r⟩
   |non=>exact⟨.list_none h aW,.list_none h aW⟩
   |bl b=>exact⟨.list_bool b h aW,.list_bool b h aW⟩
   |int b t=>exact⟨.list_int b t h aW,.list_int b t h aW⟩
   |str b t=>exact⟨.list_str b t h aW,.list_str b t h aW⟩
  |non=>
   cases y with
   |non=>exact⟨.same _,.none_none⟩
   |bl c'=>exact⟨.none_bool c',.none_bool c'⟩
   |int c' t'=>exact⟨.none_int c' t',.none_int c' t'⟩
   |str c' t'=>exact⟨.none_str c' t',.none_str c' t'⟩
   |tup h' q'=>exact⟨.none_tuple h' aW,.none_tuple h' aW⟩
   |lst h' q'=>exact⟨.none_list h' aW,.none_list h' aW⟩
   |fix h' q'=>exact⟨.none_list h' aW,.none_list h' aW⟩
  |bl c=>
   cases y with
   |non=>exact⟨.bool_none c,.bool_none c⟩
   |bl c'=>exact⟨.bool_bool c c',.bool_bool c c'⟩
   |int c' t'=>exact⟨.bool_int c c' t',.bool_int c c' t'⟩
   |str c' t'=>exact⟨.bool_str c c' t',.bool_str c c' t'⟩
   |tup h' q'=>exact⟨.bool_tuple c h' aW,.bool_tuple c h' aW⟩
   |lst h' q'=>exact⟨.bool_list c h' aW,.bool_list c h' aW⟩
   |fix h' q'=>exact⟨.bool_list c h' aW,.bool_list c h' aW⟩
  |int c t=>
   cases y with
   |non=>exact⟨.int_none c t,.int_none c t⟩
   |bl c'=>exact⟨.int_bool c t c',.int_bool c t c'⟩
   |int c' t'=>exact⟨.int_int c t c' t',.int_int c t c' t'⟩
   |str c' t'=>exact⟨.int_str c t c' t',.int_str c t c' t'⟩
   |tup h' q'=>exact⟨.int_tuple c t h' aW,.int_tuple c t h' aW⟩
   |lst h' q'=>exact⟨.int_list c t h' aW,.int_list c t h' aW⟩
   |fix h' q'=>exact⟨.int_list c t h' aW,.int_list c t h' aW⟩
  |str c t=>
   cases y with
   |non=>exact⟨.str_none c t,.str_none c t⟩
   |bl c'=>exact⟨.str_bool c t c',.str_bool c t c'⟩
   |int c' t'=>exact⟨.str_int c t c' t',.str_int c t c' t'⟩
   |str c' t'=>exact⟨.str_str c t c' t',.str_str c t c' t'⟩
   |tup h' q'=>exact⟨.str_tuple c t h' aW,.str_tuple c t h' aW⟩
   |lst h' q'=>exact⟨.str_list c t h' aW,.str_list c t h' aW⟩
   |fix h' q'=>exact⟨.str_list c t h' aW,.str_list c t h' aW⟩
section
variable{K:Frag}{M:List Addr}{H:Hp}{v:V}
theorem Pk.int{i:Int}(h:Pk K M H (.int i) v):v=.int i:=by
 cases h with |of r=>cases r;rfl
theorem Pk.bl(h:Pk K M H (.bl i) v):v=.bl i:=by
 cases h with |of r=>cases r;rfl
theorem Pk.str(h:Pk K M H (.str i) v):v=.str i:=by
 cases h with |of r=>cases r;rfl
theorem Pk.non(h:Pk K M H .non v):v=.non:=by
 cases h with |of r=>cases r;rfl
theorem Pk.tup{l:List D}(h:Pk K M H (.tup l) v):∃a xs,v=.ref a/\TupAt K M H a xs/\aI K M H l xs:=by
 cases h with |of r=>cases r with |tup h1 h2=>exact⟨_,_,rfl,h1,h2⟩
theorem Pk.fix{l:List D}(h:Pk K M H (.fix l) v):∃a xs,v=.ref a/\oH K M H a xs/\aI K M H l xs:=by
 cases h with |of r=>cases r with |fix h1 h2=>exact⟨_,_,rfl,h1,h2⟩
end
section
variable{X:Cx}{z:Z}
theorem zh{f:Value->Value->Sem Value}{k:Int->Int->Int}{i j:Int}(h:ni X f (Jc λi j=>.int (k i j))):nJ X z f (.int i) (.int j) (.dat (.int (k i j))):=
 ⟨_,h,λg σ As M H v1 v2 Q s p1 p2 kk=>⟨i,j,p1.int,p2.int,kk _ H As M s (au.refl _ _) (.int _)⟩⟩
theorem sU{f:Value->Value->Sem Value}{C:Int->Int->Prop}{k:Int->Int->Int}{i j:Int}(h:ni X f (rI C λi j=>.int (k i j)))(hc:C i j):nJ X z f (.int i) (.int j) (.dat (.int (k i j))):=
 ⟨_,h,λg σ As M H v1 v2 Q s p1 p2 kk=>⟨i,j,p1.int,p2.int,hc,kk _ H As M s (au.refl _ _) (.int _)⟩⟩
theorem sV{f:Value->Value->Sem Value}{k:Int->Int->Bool}{i j:Int}(h:ni X f (Jc λi j=>.bl (k i j))):nJ X z f (.int i) (.int j) (.dat (.bl (k i j))):=
 ⟨_,h,λg σ As M H v1 v2 Q s p1 p2 kk=>⟨i,j,p1.int,p2.int,kk _ H As M s (au.refl _ _) (.bl _)⟩⟩
noncomputable def Qz(z:Z)(d1 d2:D)(b:Bool):R2:=λx y H Q=>(∃M,Pk z.K M H d1 x/\Pk z.K M H d2 y)/\Q (.bl b) H
theorem Wq(hK:z.K=X.K)(p1:fO d1=true)(p2:fO d2=true)(hd:X.A.units+dep d1<cLine):nJ X z (compareOp .Eq) d1 d2 (.dat (.bl (bL d1 d2))):=by
 refine⟨Qz z d1 d2 (bL d1 d2),?_,λg σ As M H v1 v2 Q s q1 q2 kk=>⟨⟨M,q1,q2⟩,kk _ H As M s (au.refl _ _) (.bl _)⟩⟩
 intro ah s σ H x y v u Q I rx ry h
 obtain⟨⟨M,q1,q2⟩,q⟩:=h
 rw[hK]at q1 q2
 exact (Ep (dep d1) (aal _) (q1.dv I rx p1) (q2.dv I ry p2) hd).2 X.prog X.w X.xe _ ⟨.bl _,H,I,rfl,q⟩
section
variable{A:Around}{s:Shared}{l b:Addr}{us ws:List Value}{ls ms:List D}
theorem j7(hl:s.heap.IsList l us.toArray)(hb:s.heap.IsList b ws.toArray)(q:mF s.heap ls us)(q':mF s.heap ms ws)(hu:A.units<cLine)
  (he:∀(j:Nat) d1 d2 u1 u2,ls[j]?=some d1->Dv s.heap d1 u1->Dv s.heap d2 u2->SeqAt.EqAt A.in1 s u1 u2 (bL d1 d2)):SeqAt.RcNeAt A s (.ref l) (.ref b) (!dw ls ms):=by
 have h1:=q.length
 have h2:=q'.length
 by_cases h:ls.length=ms.length
 .
  rw[<- oK ls ms h]
  have e:us.toArray.size=ls.length:=by rw[aag,h1]
  rw[<- e]
  refine SeqAt.RcNeAt.lists hl hb (by rw[aag,aag];lia) hu λj g1 g2=>?_
  rw[aag]at g1 g2
  obtain⟨d1,e1,v1⟩:=q.get (j:=j) (u:=us[j]) (by simp[g1])
  obtain⟨d2,e2,v2⟩:=q'.get (j:=j) (u:=ws[j]) (by simp[g2])
  have:=he j d1 d2 us[j] ws[j] e1 v1 v2
  simpa [N2,e1,e2]using this
 .
  rw[oM ls ms h]
  refine SeqAt.RcNeAt.lists_lengths hl hb ?_ hu
  rw[aag,aag]
  simp only[bne_iff_ne]
  lia
theorem Ax(hl:IsTup s.heap l us.toArray)(hb:IsTup s.heap b ws.toArray)(q:mF s.heap ls us)(q':mF s.heap ms ws)(hu:A.units<cLine)
  (he:∀(j:Nat) d1 d2 u1 u2,ls[j]?=some d1->Dv s.heap d1 u1->Dv s.heap d2 u2->SeqAt.EqAt A.in1 s u1 u2 (bL d1 d2)):SeqAt.RcNeAt A s (.ref l) (.ref b) (!dw ls ms):=by
 have h1:=q.length
 have h2:=q'.length
 have e:us.toArray.size=ls.length:=by rw[aag,h1]
 have e':ws.toArray.size=ms.length:=by rw[aag,h2]
 rw[<- uQ,<- e,<- e']
 refine SeqAt.RcNeAt.tuples hl hb hu λj g1 g2=>?_
 rw[aag]at g1 g2
 obtain⟨d1,e1,v1⟩:=q.get (j:=j) (u:=us[j]) (by simp[g1])
 obtain⟨d2,e2,v2⟩:=q'.get (j:=j) (u:=ws[j]) (by simp[g2])
 have:=he j d1 d2 us[j] ws[j] e1 v1 v2
 simpa [N2,e1,e2]using this
end
theorem Wr(x:Dv s.heap d1 u1)(y:Dv s.heap d2 u2)(hu:A.units+dep d1<cLine):SeqAt.RcNeAt A s u1 u2 (!bL d1 d2):=by
 have aW:A.units<cLine:=by lia
 have el:∀{l:List D},deps l+1<=dep d1->∀(j:Nat) d1 d2 u1 u2,l[j]?=some d1->Dv s.heap d1 u1->Dv s.heap d2 u2->SeqAt.EqAt A.in1 s u1 u2 (bL d1 d2):=λhl j e1 e2 u1 u2 e v1 v2=>
  (Ep (dep e1) (aal _) v1 v2 (by rw[in1_units];have:=oN e;lia)).1
 cases x with
 |tup h q=>
  cases y with
  |tup h' q'=>exact Ax h h' q q' aW (el (by simp[dep]))
  |lst h' q'=>exact .tuple_list h h' aW
  |fix h' q'=>exact .tuple_list h h' aW
  |non=>exact .tuple_none h aW
  |bl b=>exact .tuple_bool b h aW
  |int b t=>exact .tuple_int b t h aW
  |str b t=>exact .tuple_str b t h aW
 |lst h q=>
  cases y with
  |tup h' q'=>exact .list_tuple h h' aW
  |lst h' q'=>exact j7 h h' q q' aW (el (by simp[dep]))
  |fix h' q'=>exact j7 h h' q q' aW (el (by simp[dep]))
  |non=>exact .list_none h aW
  |bl b=>exact .list_bool b h aW
  |int b t=>exact .list_int b t h aW
  |str b t=>exact .list_str b t h aW
 |fix h q=>
  cases y with
  |tup h' q'=>exact .list_tuple h h' aW
  |lst h' q'=>exact j7 h h' q q' aW (el (by simp[dep]))
  |fix h' q'=>exact j7 h h' q q' aW (el (by simp[dep]))
  |non=>exact .list_none h aW
  |bl b=>exact .list_bool b h aW
  |int b t=>exact .list_int b t h aW
  |str b t=>exact .list_str b t h aW
 |non=>
  cases y with
  |non=>exact .none_none
  |bl c'=>exact .none_bool c'
  |int c' t'=>exact .none_int c' t'
  |str c' t'=>exact .none_str c' t'
  |tup h' q'=>exact .none_tuple h' aW
  |lst h' q'=>exact .none_list h' aW
  |fix h' q'=>exact .none_list h' aW
 |bl c=>
  cases y with
  |non=>exact .bool_none c
  |bl c'=>exact .bool_bool c c'
  |int c' t'=>exact .bool_int c c' t'
  |str c' t'=>exact .bool_str c c' t'
  |tup h' q'=>exact .bool_tuple c h' aW
  |lst h' q'=>exact .bool_list c h' aW
  |fix h' q'=>exact .bool_list c h' aW
 |int c t=>
  cases y with
  |non=>exact .int_none c t
  |bl c'=>exact .int_bool c t c'
  |int c' t'=>exact .int_int c t c' t'
  |str c' t'=>exact .int_str c t c' t'
  |tup h' q'=>exact .int_tuple c t h' aW
  |lst h' q'=>exact .int_list c t h' aW
  |fix h' q'=>exact .int_list c t h' aW
 |str c t=>
  cases y with
  |non=>exact .str_none c t
  |bl c'=>exact .str_bool c t c'
  |int c' t'=>exact .str_int c t c' t'
  |str c' t'=>exact .str_str c t c' t'
  |tup h' q'=>exact .str_tuple c t h' aW
  |lst h' q'=>exact .str_list c t h' aW
  |fix h' q'=>exact .str_list c t h' aW
theorem Ws(hK:z.K=X.K)(p1:fO d1=true)(p2:fO d2=true)(hd:X.A.units+dep d1<cLine):nJ X z (compareOp .NotEq) d1 d2 (.dat (.bl (!bL d1 d2))):=by
 refine⟨Qz z d1 d2 (!bL d1 d2),?_,λg σ As M H v1 v2 Q s q1 q2 kk=>⟨⟨M,q1,q2⟩,kk _ H As M s (au.refl _ _) (.bl _)⟩⟩
 intro ah s σ H x y v u Q I rx ry h
 obtain⟨⟨M,q1,q2⟩,q⟩:=h
 rw[hK]at q1 q2
 exact Wr (q1.dv I rx p1) (q2.dv I ry p2) hd X.prog X.w X.xe _ ⟨.bl _,H,I,rfl,q⟩
theorem Er(q:Dv h d u):∀d' x,Dv h d' u->bL d x=bL d' x:=by
 have two:∀{l l':List D} (x:D),(∀m,dw l m=dw l' m)->bL (.lst l) x=bL (.lst l') x/\bL (.fix l) x=bL (.lst l') x/\bL (.lst l) x=bL (.fix l') x/\bL (.fix l) x=bL (.fix l') x:=λx k=>by
  cases x with
  |lst m=>exact⟨k m,k m,k m,k m⟩
  |fix m=>exact⟨k m,k m,k m,k m⟩
  |_=>exact⟨rfl,rfl,rfl,rfl⟩
 refine Dv.rec (motive_1:=λd u _=>∀d' x,Dv h d' u->bL d x=bL d' x) (motive_2:=λl us _=>∀l' m,mF h l' us->dw l m=dw l' m) ?_ ?_ ?_ ?_ ?_ ?_ ?_ ?_ ?_ q
 .
  intro d' x q;cases q;rfl
 .
  intro b d' x q;cases q;rfl
 .
  intro i t d' x q;cases q;rfl
 .
  intro y t d' x q;cases q;rfl
 .
  intro l a us k _ ih d' x q
  cases q with
  |tup y q'=>
   cases rm k y
   cases x with
   |tup m=>exact ih _ m q'
   |_=>rfl
  |lst y _=>exact (dM k y).elim
  |fix y _=>exact (dM k y).elim
 .
  intro l a us k _ ih d' x q
  cases q with
  |tup y _=>exact (dM y k).elim
  |lst y q'=>cases bO k y;exact (two x λm=>ih _ m q').1
  |fix y q'=>cases bO k y;exact (two x λm=>ih _ m q').2.2.1
 .
  intro l a us k _ ih d' x q
  cases q with
  |tup y _=>exact (dM y k).elim
  |lst y q'=>cases bO k y;exact (two x λm=>ih _ m q').2.1
  |fix y q'=>cases bO k y;exact (two x λm=>ih _ m q').2.2.2
 .
  intro l' m q;cases q;rfl
 .
  intro d ds u us _ _ i1 i2 l' m q
  cases q with
  |@cons d' l' _ _ b q'=>cases m with
   |nil=>rfl
   |cons y m=>
    show (bL d y&&dw ds m)=(bL d' y&&dw l' m)
    rw[i1 _ y b,i2 _ m q']
theorem J2(x:D)(q:Dv h d u)(q':Dv h d' u):bL d x=bL d' x:=Er q d' x q'
open Classical in
noncomputable def sW(h:Heap)(x:D)(u:Value):Bool:=decide (∃d,Dv h d u/\bL d x=true)
open Classical in
theorem xA(q:Dv h d u):sW h x u=bL d x:=by
 unfold sW
 cases e:bL d x with
 |true=>exact abP ⟨d,q,e⟩
 |false=>
  refine abh ?_
  rintro⟨d',q',e'⟩
  rw[J2 x q' q,e]at e'
  cases e'
theorem sX(q:mF h l us):us.any (sW h x)=l.any λd=>bL d x:=by
 induction l generalizing us with
 |nil=>cases q;rfl
 |cons d l ih=>cases q with |cons a b=>rw[List.any_cons,List.any_cons,xA a,ih b]
noncomputable def Z8(z:Z)(d1 d2:D)(b:Bool):R2:=Qz z d1 d2 b
theorem lu{A:Around}{s:Shared}{x:D}{u:Value}{l:List D}{us:List Value}(q:mF s.heap l us)(hx:Dv s.heap x u)(hu:A.units+deps l+1<cLine):∀y,y∈us.toArray->SeqAt.EqAt A.in1 s y u (sW s.heap x y):=by
 intro y hy
 have hy':y∈us:=by simpa using hy
 obtain⟨j,hj⟩:=List.getElem?_of_mem hy'
 obtain⟨d,e,qd⟩:=q.get hj
 rw[xA qd]
 have:=oN e
 exact (Ep (dep d) (aal _) qd hx (by rw[in1_units];lia)).1
noncomputable def cR:D->Option (List D)
 |.lst l=>some l
 |.tup l=>some l
 |.fix l=>some l
 |_=>none
theorem Wt(hK:z.K=X.K)(hs:cR d2=some l)(p1:fO d1=true)(p2:fD l=true)(hd:X.A.units+deps l+1<cLine):nJ X z (compareOp .In) d1 d2 (.dat (.bl (l.any λd=>bL d d1))):=by
 refine⟨Z8 z d1 d2 (l.any λd=>bL d d1),?_,λg σ As M H v1 v2 Q s q1 q2 kk=>⟨⟨M,q1,q2⟩,kk _ H As M s (au.refl _ _) (.bl _)⟩⟩
 intro ah s σ H x y v u Q I rx ry h
 obtain⟨⟨M,q1,q2⟩,q⟩:=h
 rw[hK]at q1 q2
 have hx:=q1.dv I rx p1
 cases d2 with
 |lst m=>
  cases hs
  obtain⟨a,xs,rfl,ha,rr⟩:=q2.list
  cases ry
  obtain⟨its,rv,pl,hz⟩:=I.list (cK.of ha)
  have mq:=rr.dv I rv p2
  refine SeqAt.in_listAt (sW s.heap d1) pl.isList (lu mq hx hd) ⟨.bl _,H,I,rfl,?_⟩
  rw[show its.toArray.any (sW s.heap d1)=its.any (sW s.heap d1)by simp,sX mq]
  exact q
 |fix m=>
  cases hs
  obtain⟨a,xs,rfl,ha,rr⟩:=q2.fix
  cases ry
  obtain⟨its,rv,pl,hz⟩:=I.list ha.sq
  have mq:=rr.dv I rv p2
  refine SeqAt.in_listAt (sW s.heap d1) pl.isList (lu mq hx hd) ⟨.bl _,H,I,rfl,?_⟩
  rw[show its.toArray.any (sW s.heap d1)=its.any (sW s.heap d1)by simp,sX mq]
  exact q
 |tup m=>
  cases hs
  obtain⟨a,xs,rfl,ha,rr⟩:=q2.tup
  cases ry
  obtain⟨its,rv,pl,hz⟩:=I.tuple ha.sq
  have mq:=rr.dv I rv p2
  refine SeqAt.in_tupleAt (sW s.heap d1) pl (lu mq hx hd) ⟨.bl _,H,I,rfl,?_⟩
  rw[show its.toArray.any (sW s.heap d1)=its.any (sW s.heap d1)by simp,sX mq]
  exact q
 |_=>cases hs
theorem QB(h:l.length+m.length<=16777216):nJ X z (binaryOp .Add) (.lst l) (.lst m) (.new (l++m)):=by
 refine⟨_,Qa,λg σ As M H v1 v2 Q s q1 q2 kk=>?_⟩
 obtain⟨a,xs,rfl,ha,ra⟩:=q1.list
 obtain⟨b,ys,rfl,hb,rb⟩:=q2.list
 refine⟨a,b,xs,ys,rfl,rfl,ha,hb,by rw[<- ra.length,<- rb.length];exact jl h,λp hp=>?_⟩
 exact kk _ _ As (p::M) (s.aZ hp) (au.aZ hp) ⟨p,_,rfl,aah,λhA=>s.fresh hp (s.sub p hA),s.cQ hp,aE,(ra.append rb).stay (au.aZ hp)⟩
theorem QC(h1 : -(2 ^ 63)<=k)(h2:k<2 ^ 63)(h:l.length * k.toNat<=16777216):nJ X z (binaryOp .Mult) (.lst l) (.int k) (.new (List.replicate k.toNat l).flatten):=by
 refine⟨_,Qc,λg σ As M H v1 v2 Q s q1 q2 kk=>?_⟩
 obtain⟨a,xs,rfl,ha,ra⟩:=q1.list
 have rr:∀n,aI z.K M H (List.replicate n l).flatten (List.replicate n xs).flatten:=λn=>by
  induction n with
  |zero=>simp;exact .nil
  |succ n ih=>rw[aa3,aa3,abJ,abJ];exact ra.append ih
 refine⟨a,k,xs,rfl,q2.int,ha,h1,h2,by rw[<- ra.length];exact jl h,λp hp=>?_⟩
 exact kk _ _ As (p::M) (s.aZ hp) (au.aZ hp) ⟨p,_,rfl,aah,λhA=>s.fresh hp (s.sub p hA),s.cQ hp,aE,(rr _).stay (au.aZ hp)⟩
noncomputable def QD(K:Frag):R2:=λx y H Q=>∃a b xs ys,x=.ref a/\y=.ref b/\iA K H a xs/\iA K H b ys/\xs.length+ys.length<=sizeLine/\
 (xs=[]->Q (.ref b) H)/\(xs≠[]->ys=[]->Q (.ref a) H)/\(xs≠[]->ys≠[]->∀p,H p=none->Q (.ref p) (upd H p (.tup (xs++ys))))
theorem Es:ni X (binaryOp .Add) (QD X.K):=by
 intro ah s σ H x y v u Q I rx ry h
 obtain⟨a,b,xs,ys,rfl,rfl,ha,hb,hz,q0,q1,q2⟩:=h
 by_cases hx:xs=[]
 .
  subst hx
  cases rx
  cases ry
  obtain⟨its,r1,p1,_⟩:=I.tuple ha
  obtain⟨kO,r2,p2,_⟩:=I.tuple hb
  cases r1
  obtain⟨⟨cls,dd,data,sl⟩,ho,hc,n,hd⟩:=id p1
  obtain⟨⟨V6,dd2,data2,sl2⟩,ho2,hc2,n2,hd2⟩:=id p2
  simp only at hc hd hc2 hd2
  subst hc hd hc2 hd2
  exact concat_meets ⟨_,ho,rfl⟩ ⟨_,ho2,rfl⟩ noFill_tuple_add seq_tuple_add acg ab9 (ab5 _ _)
   (tuple_addW0 a b #[] kO.toArray n n2 dd dd2 sl sl2 (by simp)) ⟨ho,ho2,⟨.ref b,H,I,rfl,q0 rfl⟩⟩
 .
  exact JC ah s σ H (.ref a) (.ref b) v u Q I rx ry ⟨a,b,xs,ys,rfl,rfl,ha,hb,hx,hz,q1 hx,q2 hx⟩
theorem J3(hK:z.K=X.K)(h:l.length+m.length<=16777216):nJ X z (binaryOp .Add) (.tup l) (.tup m) (.dat (.tup (l++m))):=by
 refine⟨_,Es,λg σ As M H v1 v2 Q s q1 q2 kk=>?_⟩
 obtain⟨a,xs,rfl,ha,ra⟩:=q1.tup
 obtain⟨b,ys,rfl,hb,rb⟩:=q2.tup
 have la:=ra.length
 have lb:=rb.length
 refine⟨a,b,xs,ys,rfl,rfl,hK▸ha.sq,hK▸hb.sq,by rw[<- la,<- lb];exact jl h,λe=>?_,λe1 e2=>?_,λe1 e2 p hp=>?_⟩
 .
  subst e
  cases l with
  |nil=>exact kk _ H As M s (au.refl _ _) (.tup hb rb)
  |cons _ _=>simp at la
 .
  subst e2
  cases m with
  |nil=>rw[aaV]at kk;exact kk _ H As M s (au.refl _ _) (.tup ha ra)
  |cons _ _=>simp at lb
 .
  exact kk _ _ As M (s.laid hp) (au.laid hp) (.tup (.inl ⟨s.fresh hp,.inl aE⟩) ((ra.append rb).stay (au.laid hp)))
theorem oO{K:Frag}{M:List Addr}{H:Hp}{l:List D}{xs:List V}{i:Int}{d:D}(r:aI K M H l xs)(h:g7 l i=some d):∃v,g7 xs i=some v/\Rep K M H d v:=by
 unfold g7 at h ⊢
 rw[<- r.length]
 cases e:qo l.length i with
 |none=>rw[e]at h;cases h
 |some j=>
  rw[e]at h
  have h':l[j]?=some d:=h
  obtain⟨v,h1,h2⟩:=r.get h'
  exact⟨v,h1,h2⟩
theorem QF{l:List D}{i:Int}{d:D}(hK:z.K=X.K)(h:g7 l i=some d):Wk X z (.lst l) (.int i) (.dat d):=by
 refine⟨_,yX,λg σ As M H v1 v2 Q s q1 q2 kk=>?_⟩
 obtain⟨a,xs,rfl,ha,ra⟩:=q1.list
 obtain⟨v,e,r⟩:=oO ra h
 exact⟨a,xs,i,v,rfl,q2.int,cK.of ha,e,kk _ H As M s (au.refl _ _) r⟩
theorem QG{l:List D}{i:Int}{d:D}(hK:z.K=X.K)(h:g7 l i=some d):Wk X z (.fix l) (.int i) (.dat d):=by
 refine⟨_,yX,λg σ As M H v1 v2 Q s q1 q2 kk=>?_⟩
 obtain⟨a,xs,rfl,ha,ra⟩:=q1.fix
 obtain⟨v,e,r⟩:=oO ra h
 exact⟨a,xs,i,v,rfl,q2.int,hK▸ha.sq,e,kk _ H As M s (au.refl _ _) r⟩
theorem J4{l:List D}{i:Int}{d:D}(hK:z.K=X.K)(h:g7 l i=some d):Wk X z (.tup l) (.int i) (.dat d):=by
 refine⟨_,P5,λg σ As M H v1 v2 Q s q1 q2 kk=>?_⟩
 obtain⟨a,xs,rfl,ha,ra⟩:=q1.tup
 obtain⟨v,e,r⟩:=oO ra h
 exact⟨a,xs,i,v,rfl,q2.int,hK▸ha.sq,e,kk _ H As M s (au.refl _ _) r⟩
noncomputable def bZ:List D->Option (List Int)
 | []=>some []
 |.int i::l=>match bZ l with |some ns=>some (i::ns) |none=>none
 |_::_=>none
theorem ez{K:Frag}{M:List Addr}{H:Hp}{l:List D}{xs:List V}{ns:List Int}(q:aI K M H l xs)(e:bZ l=some ns):xs=ns.map V.int:=by
 induction l generalizing xs ns with
 |nil=>cases q;cases e;rfl
 |cons d l ih=>cases q with |cons r q=>cases d with
  |int i=>
   have e:(match bZ l with |some ns=>some (i::ns) |none=>none)=some ns:=e
   cases e2:bZ l with
   |none=>rw[e2]at e;cases e
   |some ns=>
    rw[e2]at e
    cases e
    cases r
    rw[List.map_cons,ih q e2]
  |_=>cases e
theorem QH{l m:List D}{ns ms:List Int}(hK:z.K=X.K)(hu:X.A.units<cLine)(h1:bZ l=some ns)(h2:bZ m=some ms):nJ X z (compareOp .Lt) (.tup l) (.tup m) (.dat (.bl (HT.lexLt ns ms))):=by
 refine⟨_,P4 hu,λg σ As M H v1 v2 Q s q1 q2 kk=>?_⟩
 obtain⟨a,xs,rfl,ha,ra⟩:=q1.tup
 obtain⟨b,ys,rfl,hb,rb⟩:=q2.tup
 have e1:=ez ra h1
 have e2:=ez rb h2
 subst e1 e2
 exact⟨a,b,ns,ms,rfl,rfl,hK▸ha.sq,hK▸hb.sq,kk _ H As M s (au.refl _ _) (.bl _)⟩
theorem QJ:UnD X z (unaryOp .USub) (.int i) (.dat (.int (-i))):=⟨_,DT,λg σ As M H v Q s p k=>⟨i,p.int,k _ H As M s (au.refl _ _) (.int _)⟩⟩
end
section
variable{X:Cx}{z:Z}
theorem J0.one{K:Frag}{M:List Addr}{H:Hp}{d:D}{vs:List V}(h:J0 K M H [d] vs):∃v,vs=[v]/\Pk K M H d v:=by
 cases h with |cons p q=>cases q;exact⟨_,rfl,p⟩
theorem J0.two{K:Frag}{M:List Addr}{H:Hp}{d e:D}{vs:List V}(h:J0 K M H [d,e] vs):∃v w,vs=[v,w]/\Pk K M H d v/\Pk K M H e w:=by
 cases h with |cons p q=>cases q with |cons p' q'=>cases q';exact⟨_,_,rfl,p,p'⟩
noncomputable def Wu:D->Option Nat
 |.lst l=>some l.length
 |.tup l=>some l.length
 |.fix l=>some l.length
 |_=>none
theorem QK{d:D}{n:Nat}(hK:z.K=X.K)(h:Wu d=some n):CallD X z (.builtin "len") [d] (.dat (.int n)):=by
 refine⟨_,DX,λg σ As M H vs Q s p k=>?_⟩
 obtain⟨v,rfl,pv⟩:=p.one
 refine⟨v,n,rfl,?_,k _ H As M s (au.refl _ _) (.int _)⟩
 cases d with
 |lst l=>cases h;obtain⟨a,xs,rfl,ha,r⟩:=pv.list;exact .inl ⟨xs,cK.of ha,r.length⟩
 |fix l=>cases h;obtain⟨a,xs,rfl,ha,r⟩:=pv.fix;exact .inl ⟨xs,hK▸ha.sq,r.length⟩
 |tup l=>cases h;obtain⟨a,xs,rfl,ha,r⟩:=pv.tup;exact .inr ⟨xs,hK▸ha.sq,r.length⟩
 |_=>cases h
theorem J5{d:D}{l:List D}(hK:z.K=X.K)(h:cR d=some l):CallD X z (.type "list") [d] (.new l):=by
 refine⟨_,sO,λg σ As M H vs Q s p k=>?_⟩
 obtain⟨v,rfl,pv⟩:=p.one
 have fin:∀xs,aI z.K M H l xs->∀p,H p=none->Q (.ref p) (upd H p (.lst xs)):=λxs r p hp=>
  k _ _ As (p::M) (s.aZ hp) (au.aZ hp) ⟨p,xs,rfl,aah,λhA=>s.fresh hp (s.sub p hA),s.cQ hp,aE,r.stay (au.aZ hp)⟩
 cases d with
 |lst m=>cases h;obtain⟨a,xs,rfl,ha,r⟩:=pv.list;exact⟨a,xs,rfl,.inl (cK.of ha),fin xs r⟩
 |fix m=>cases h;obtain⟨a,xs,rfl,ha,r⟩:=pv.fix;exact⟨a,xs,rfl,.inl (hK▸ha.sq),fin xs r⟩
 |tup m=>cases h;obtain⟨a,xs,rfl,ha,r⟩:=pv.tup;exact⟨a,xs,rfl,.inr (hK▸ha.sq),fin xs r⟩
 |_=>cases h
theorem Et{d:D}{l:List D}(hK:z.K=X.K)(h:cR d=some l):CallD X z (.type "tuple") [d] (.dat (.tup l)):=by
 refine⟨_,qz,λg σ As M H vs Q s p k=>?_⟩
 obtain⟨v,rfl,pv⟩:=p.one
 have fin:∀xs,aI z.K M H l xs->∀p,H p=none->Q (.ref p) (upd H p (.tup xs)):=λxs r p hp=>
  k _ _ As M (s.laid hp) (au.laid hp) (.tup (.inl ⟨s.fresh hp,.inl aE⟩) (r.stay (au.laid hp)))
 cases d with
 |lst m=>cases h;obtain⟨a,xs,rfl,ha,r⟩:=pv.list;exact⟨a,xs,rfl,.inl ⟨cK.of ha,fin xs r⟩⟩
 |fix m=>cases h;obtain⟨a,xs,rfl,ha,r⟩:=pv.fix;exact⟨a,xs,rfl,.inl ⟨hK▸ha.sq,fin xs r⟩⟩
 |tup m=>cases h;obtain⟨a,xs,rfl,ha,r⟩:=pv.tup;exact⟨a,xs,rfl,.inr ⟨hK▸ha.sq,k _ H As M s (au.refl _ _) (.tup ha r)⟩⟩
 |_=>cases h
theorem QL{i j:Int}(hc:X.calm=true):CallD X z (.builtin "max") [.int i,.int j] (.dat (.int (if j > i then j else i))):=by
 refine⟨_,Aj hc,λg σ As M H vs Q s p k=>?_⟩
 obtain⟨v,w,rfl,p1,p2⟩:=p.two
 exact⟨i,j,by rw[p1.int,p2.int],k _ H As M s (au.refl _ _) (.int _)⟩
theorem QM{i j:Int}(hc:X.calm=true):CallD X z (.builtin "min") [.int i,.int j] (.dat (.int (if j<i then j else i))):=by
 refine⟨_,Ak hc,λg σ As M H vs Q s p k=>?_⟩
 obtain⟨v,w,rfl,p1,p2⟩:=p.two
 exact⟨i,j,by rw[p1.int,p2.int],k _ H As M s (au.refl _ _) (.int _)⟩
end
section
variable{X:Cx}{z:Z}
theorem oR(hc:X.calm=true):fF X (.builtin "all") (λxs H Q=>∃(p:Addr) (bs:List Bool),xs=[.ref p]/\cK X.K H p (bs.map V.bl)/\Q (.bl (bs.all id)) H):=by
 intro ah s σ H xs us Q I r h
 obtain⟨p,bs,rfl,hp,q⟩:=h
 obtain⟨u,rfl,rx⟩:=vals1 r
 cases rx
 obtain⟨its,rv,pl,hz⟩:=I.list hp
 have uz:p<s⁻¹:=by obtain⟨_,e,_⟩:=pl.isList;exact aas e
 have aL:its.length=bs.length:=by rw[<- rv.length,aaA]
 have up:∀b o,s.heap.get? b=some o->(s.heap.push { cls:=.type "list_iterator",data:=.fields #[.ref p,.int 0 0]}).get? b=some o:=λb o e=>aae _ e
 refine call_all_walk (wpAny_pyIter_list pl.isList ?_)
 refine⟨s⁻¹,_,_,_,_,_,λi=>bs.getD i true,rfl,Walks.list (A:=X.A.in1) (show X.A.in1.handled=none from I.ok.hd hc) s⁻¹ p (aaG uz) its.toArray,⟨⟨_,aaq _ rfl,rfl,rfl⟩,pl.isList.push _⟩,?_,λh' tk hk=>?_⟩
 .
  intro i v s' Q' E' hv hq
  have hv':its[i]?=some v:=by simpa using hv
  have hi:i<bs.length:=by rw[<- aL];exact (aai.mp hv').1
  obtain⟨w,e1,e2⟩:=rv.get (i:=i) (x:=V.bl bs[i]) (by simp[hi])
  rw[hv']at e1
  cases e1
  cases e2
  refine aaT ?_
  have:bs.getD i true=bs[i]:=by simp[List.getD,hi]
  rw[<- this]
  exact hq
 .
  have I1:L2.Inv X ah σ H { s with heap:=h',toks:=tk}:=I.kept λb o e=>hk b o (λhm=>by
   have:b=s⁻¹:=by simpa using hm
   exact absurd (aas e) (by rw[this];exact aa7 _)) (up b o e)
  refine⟨.bl (bs.all id),H,I1,?_,q⟩
  have e:(List.range its.toArray.size).all (λi=>bs.getD i true)=bs.all id:=by
   rw[aag,aL]
   rw[Bool.eq_iff_iff]
   simp only[aaK,abo,id]
   constructor
   .
    intro h b hb
    obtain⟨j,hj⟩:=List.getElem?_of_mem hb
    have hj':=(aai.mp hj).1
    have:=h j hj'
    simpa [List.getD,hj]using this
   .
    intro h i hi
    have:=h bs[i] (List.getElem_mem hi)
    simpa [List.getD,hi]using this
  rw[e]
  rfl
noncomputable def uR:List D->Option (List Bool)
 | []=>some []
 |.bl b::l=>match uR l with |some bs=>some (b::bs) |none=>none
 |_::_=>none
theorem Eu{K:Frag}{M:List Addr}{H:Hp}{l:List D}{xs:List V}{ns:List Bool}(q:aI K M H l xs)(e:uR l=some ns):xs=ns.map V.bl:=by
 induction l generalizing xs ns with
 |nil=>cases q;cases e;rfl
 |cons d l ih=>cases q with |cons r q=>cases d with
  |bl i=>
   have e:(match uR l with |some ns=>some (i::ns) |none=>none)=some ns:=e
   cases e2:uR l with
   |none=>rw[e2]at e;cases e
   |some ns=>
    rw[e2]at e
    cases e
    cases r
    rw[List.map_cons,ih q e2]
  |_=>cases e
theorem QS{l:List D}{bs:List Bool}(hc:X.calm=true)(h:uR l=some bs):CallD X z (.builtin "all") [.lst l] (.dat (.bl (bs.all id))):=by
 refine⟨_,oR hc,λg σ As M H vs Q s p k=>?_⟩
 obtain⟨v,rfl,pv⟩:=p.one
 obtain⟨a,xs,rfl,ha,r⟩:=pv.list
 have e:=Eu r h
 subst e
 exact⟨a,bs,rfl,cK.of ha,k _ H As M s (au.refl _ _) (.bl _)⟩
end
noncomputable def j8:D->String
 |.non=> "NoneType" |.bl _=> "bool" |.int _=> "int" |.str _=> "str" |.tup _=> "tuple" |.lst _=> "list" |.fix _=> "list" |.emp=> "dict" |.mC _=> ""
noncomputable def Dn:D->Value
 |.mC C=>.ref C
 |d=>.type (j8 d)
theorem Ay{M:Model}{A:Around}{E:Value->Shared->Prop}{K:Frag}{x C:Addr}{ox:Obj}{nv:Value}{Q:Unit->Shared->Prop}{s:Shared}(X:K.In s.heap)(I:PySem.W.InstAt s.heap x ox C none)(hb:PySem.W.mroIn K C (.type "BaseException")=some true)(hq:Q () s) :
  wpAny M A (checkBuiltinCall "BaseException.__getattribute__" ⟨[.ref x,nv],[]⟩) Q E s:=by
 have kd:builtinKind "BaseException.__getattribute__" = some .slot:=by decide +kernel
 have sd:splitId "BaseException.__getattribute__" = some ("BaseException", "__getattribute__"):=by decide +kernel
 have ha:=F.args_bexc_ga (.ref x) nv
 obtain⟨hv,ge,dr,tk,o'⟩:=s
 have l0:=I.type (M:=M)
 have l1:=PySem.W.looks_mroIn (M:=M) X hb
 simp only[checkBuiltinCall,kd,sd]
 unfold isInstance
 refine aad (aad (l0.at (l1.at ?_)))
 repeat (any_goals (first |assumption |wp_step))
theorem Ew{prog:Program}{w:World}{A:Around}{E:Value->Shared->Prop}{K:Frag}{x C:Addr}{ox:Obj}{name:Str}{g a:Value}{Q:Option Value->Shared->Prop}{s:Shared}(X:K.In s.heap)(I:PySem.W.InstAt s.heap x ox C none)
  (hga:PySem.W.findIn K (.ref C) "__getattribute__" = some (some (.builtin "BaseException.__getattribute__"))) (hk:PySem.W.findIn K (.ref C) "__getattr__" = some none) (hb:PySem.W.mroIn K C (.type "BaseException")=some true) (hf:PySem.W.findObj K C none name=some (.bind g a))
  (h:wpAny (model prog w) A.in1 (call g [a,.ref x,.ref C]) (λv s'=>wpAny (model prog w) A (handedOut v) (λv s''=>Q (some v) s'') (λ_ _=>False) s') (λ_ _=>False) { s with toks:=s.toks+1}) :
  wpAny (model prog w) A (getAttr? (.ref x) name) Q E s:=by
 obtain⟨hv,ge,dr,tk,o'⟩:=s
 have l0:=I.type (M:=model prog w)
 have l1:=PySem.W.looks_findIn (M:=model prog w) X hga
 have l2:=PySem.W.looks_findIn (M:=model prog w) X hk
 have l3:=PySem.W.looks_find (M:=model prog w) X I hf
 have f3:=F.excAttr_ValueError.ga.bind (.ref x)
 unfold getAttr? getAttrBy? getAttrBy
 refine aad (wpAny_mkText (aad (wpAny_attempt (aa8 (aad (l0.at (aad (l1.at ?_))))))))
 show wpAny _ _ (getAttrByItsOwn _ _ _ _ _ _) _ _ _
 unfold getAttrByItsOwn
 refine aad (l2.at (aad (wpAny_attempt (aa8 ?_))))
 show wpAny _ _ (boundAndCalled _ _ _) _ _ _
 unfold boundAndCalled
 rw[f3]
 refine aad (aak (wpAny_call (codeAny_call_builtin F.excAttr_ValueError.ga.plain F.entry_bexc_ga (Ay X I hb ?_))))
 refine aad (aak (aad (aak (aad (l0.at (aad (l3.at ?_)))))))
 show wpAny _ _ (Builtin.ObjectAttr.bindTo _ _ _ _) _ _ _
 show wpAny _ _ (holding [a] (call g [a,.ref x,.ref C]) >>= ret) _ _ _
 refine aad (aa8 (aaN h (λv s' z=>aak ?_) λ_ _ z=>z.elim))
 exact aaN z (λv s'' hv=>aak hv) (λ_ _ z=>z.elim)
theorem lz{K:Frag}{C:Addr}(k:Dm K C):∃c d cd sl,K.lookup C=some ⟨c,d,.cls cd,sl⟩/\PySem.W.clsIn K C=some cd:=by
 obtain⟨cd,hc,_⟩:=PySem.W.any_some k.dct
 have hc':=hc
 unfold PySem.W.clsIn at hc
 split at hc
 .
  rename_i c d cd' sl ho
  cases hc
  exact⟨c,d,cd,sl,ho,hc'⟩
 .
  cases hc
theorem uS{K:Frag}{x C:Addr}(k:Dm K C):PySem.W.KitX K (.ref x) (.ref C) (λh=>∃ox,PySem.W.InstAt h x ox C none) where
 ty:=λ_ _ _ ⟨_,I⟩=>I.type
 it:=λ_ _ X _=>by
  obtain⟨c,d,cd,sl,ho,_⟩:=lz k
  intro A' Q' E' s' kp q
  unfold isType loadHead
  refine aad ?_
  refine wpAny_loadPart (kp _ _ (X _ _ ho)) ?_
  exact aak q
 ne:=λh tp dd its n sl X htp=>by
  obtain⟨c,d,cd,Yq,ho,_⟩:=lz k
  cases q:(Value.ref C==Value.ref tp)with
  |false=>rfl
  |true=>
   have e:C=tp:=Value.ref.inj (beq_iff_eq.mp q)
   subst e
   have y:=(X _ _ ho).symm.trans htp
   cases y
 ca:=λ{prog w A E Q s} X ⟨ox,I⟩ h=>by
  obtain⟨_,_,cd,_,_,hc⟩:=lz k
  have hf:PySem.W.findObj K C none "__class__" = some (.bind (.builtin "getset_descriptor.__get__") (.builtin "object.__class__")):=by
   unfold PySem.W.findObj
   rw[hc,Option.bind_some,k.cls,Option.bind_some]
   simp[k.spc,k.tks]
  refine Ew X I k.gga k.gat k.bas hf (wpAny_call ?_)
  exact PySem.W.class_get (s:={ s with toks:=s.toks+1}) (ox:=ox) (od:=none) X I k.mro (PySem.W.handed_on rfl h)
section
variable{X:Cx}{z:Z}
theorem Ey(I:L2.Inv X ah σ H s)(p:Pk X.K M H d v)(r:RelV v u)
  (e:PySem.W.kitOne X.K (Dn d) c=some b) (h:∀tk,Q (.bool b) { s with toks:=tk}):wpAny (model X.prog X.w) A (call (.builtin "isinstance") [u,c]) Q E s:=by
 cases d with
 |non=>have q:=p.non;subst q;cases r;exact abj PySem.W.kitx_none I.nh True.intro e (λz=>nomatch z) h
 |bl y=>have q:=p.bl;subst q;cases r;exact abj PySem.W.kitx_bool I.nh True.intro e (λz=>nomatch z) h
 |int i=>have q:=p.int;subst q;obtain⟨t,rfl⟩:=r;exact abj PySem.W.kitx_int I.nh True.intro e (λz=>nomatch z) h
 |str y=>have q:=p.str;subst q;obtain⟨t,rfl⟩:=r;exact abj PySem.W.kitx_str I.nh True.intro e (λz=>nomatch z) h
 |tup l=>
  obtain⟨a,xs,rfl,ha,_⟩:=p.tup
  cases r
  obtain⟨its,_,⟨o,h1,h2,_⟩,_⟩:=I.tuple ha.sq
  exact abj PySem.W.kitx_tuple I.nh ⟨o,h1,h2⟩ e (λz=>nomatch z) h
 |lst l=>
  obtain⟨a,xs,rfl,ha,_⟩:=p.list
  cases r
  obtain⟨its,_,pl,_⟩:=I.list (cK.of ha)
  obtain⟨o,h1,h2,_⟩:=pl.isList
  exact abj acn I.nh ⟨o,h1,h2⟩ e (λz=>nomatch z) h
 |fix l=>
  obtain⟨a,xs,rfl,ha,_⟩:=p.fix
  cases r
  obtain⟨its,_,pl,_⟩:=I.list ha.sq
  obtain⟨o,h1,h2,_⟩:=pl.isList
  exact abj acn I.nh ⟨o,h1,h2⟩ e (λz=>nomatch z) h
 |emp=>
  cases p with
  |of q=>
   cases q with
   |emp _ ha=>
    cases r
    obtain⟨_,_,vs,_,o,es,ep,h1,h2,_⟩:=I.hok _ _ ha
    exact abj PySem.W.kitx_dict I.nh ⟨o,h1,h2.1⟩ e (λz=>nomatch z) h
 |mC C=>
  cases p with
  |of q=>
   cases q with
   |mC k _ ha=>
    cases r
    obtain⟨⟨o,h1,h2,h3,h4⟩,_⟩:=I.hok _ _ ha
    exact abj (uS k) I.nh ⟨o,h1,h2,h3,by rw[h4];trivial⟩ e (λz=>nomatch z) h
theorem Ez:fF X (.builtin "isinstance") (λxs H Q=>∃x n M d b,xs=[x,.ty n]/\Pk X.K M H d x/\PySem.W.kitOne X.K (Dn d) (.type n)=some b/\Q (.bl b) H):=by
 intro ah s σ H xs us Q I r h
 obtain⟨x,n,M,d,b,rfl,p,e,q⟩:=h
 obtain⟨u,w',rfl,r1,r2⟩:=vals2 r
 cases r2
 exact Ey I p r1 e λtk=>⟨.bl b,H,I.tok tk,rfl,q⟩
theorem QT(hK:z.K=X.K)(h:aA X z a g r1 g1)(hp:pk r1 g1=some d)(he:∀M H v,Pk X.K M H d v->PySem.W.kitOne X.K (Dn d) (.type n)=some b)
  (hg:Gl X "isinstance") (hm:X.mg "isinstance" = none) (hv:bootBuiltins "isinstance" = some (.builtin "isinstance")) (gT:Gl X T) (mT:X.mg T=none) (vT:bootBuiltins T=some (.type n)) (nT:T≠ "__name__") (dT:(T==("__debug__" : Str))=false)
  (hs:starEach [a,.Name T pT] X.env=(false,eval a X.env)::starEach [.Name T pT] X.env):aA X z (.Call (.Name "isinstance" p) [a,.Name T pT] [] pos) g (.dat (.bl b)) g1:=by
 obtain⟨t,q,k⟩:=h
 have Z9:PE X (.Name T pT) (tC (.ty n)):=sy gT mT vT rfl nT dT
 refine⟨_,jZ Ez hg hm hv (bG q (bG Z9 gJ) hs) (by decide) (by decide) hs,λσ As M H Q s kk=>k σ As M H _ s λv H' aB M' s' st R=>?_⟩
 have p:=hK▸s'.pk (au.refl _ _) R hp
 exact⟨v,n,M',d,b,rfl,p,he _ _ _ p,kk _ H' aB M' s' st (.bl b)⟩
end
inductive Fl where
 |nx |rt (r:R) |bk |ct
noncomputable def mG(z:Z)(M:List Addr)(H:Hp)(E:Ends)(g':G):Fl->Prop
 |.nx=>∀σ' aB M' H',S z g' σ' aB M' H'->au M H M' H'->E.nx σ' H'
 |.bk=>∀σ' aB M' H',S z g' σ' aB M' H'->au M H M' H'->E.bk σ' H'
 |.ct=>∀σ' aB M' H',S z g' σ' aB M' H'->au M H M' H'->E.ct σ' H'
 |.rt r=>∀v σ' aB M' H',S z g' σ' aB M' H'->au M H M' H'->cL z g' σ' aB M' H' r v->E.rt v H'
noncomputable def fU(X:Cx)(z:Z)(st:Stmt)(g:G)(f:Fl)(g':G):Prop:=
 ∃t,PS X st t/\∀σ As M H E,S z g σ As M H->mG z M H E g' f->t E σ H
noncomputable def dW(X:Cx)(z:Z)(jk:List Stmt)(g:G)(f:Fl)(g':G):Prop:=
 ∃t,su X jk t/\∀σ As M H E,S z g σ As M H->mG z M H E g' f->t E σ H
section
variable{X:Cx}{z:Z}{g g' g1 g2:G}{pos:Pos}{e:Expr}{st:Stmt}{jk:List Stmt}{f:Fl}{r:R}{d:D}
theorem mG.trans(st:au M H M1 H1)(h:mG z M H E g' f):mG z M1 H1 E g' f:=by
 cases f with
 |nx=>exact λσ' aB M' H' s' st'=>h σ' aB M' H' s' (st.trans st')
 |bk=>exact λσ' aB M' H' s' st'=>h σ' aB M' H' s' (st.trans st')
 |ct=>exact λσ' aB M' H' s' st'=>h σ' aB M' H' s' (st.trans st')
 |rt r=>exact λv σ' aB M' H' s' st' R=>h v σ' aB M' H' s' (st.trans st') R
theorem EY:dW X z [] g .nx g:=⟨_,Jr,λσ As M H E s k=>k σ As M H s (au.refl _ _)⟩
theorem J6(h1:fU X z st g .nx g1)(h2:dW X z jk g1 f g2):dW X z (st::jk) g f g2:=by
 obtain⟨t1,q1,k1⟩:=h1
 obtain⟨t2,q2,k2⟩:=h2
 exact⟨_,eH q1 q2,λσ As M H E s k=>k1 σ As M H _ s λσ' aB M' H' s' st'=>k2 σ' aB M' H' E s' (k.trans st')⟩
theorem QV(h1:fU X z st g (.rt r) g1):dW X z (st::jk) g (.rt r) g1:=by
 obtain⟨t1,q1,k1⟩:=h1
 exact⟨_,eH q1 bu,λσ As M H E s k=>k1 σ As M H _ s k⟩
theorem QW(h1:fU X z st g .bk g1):dW X z (st::jk) g .bk g1:=by
 obtain⟨t1,q1,k1⟩:=h1
 exact⟨_,eH q1 bu,λσ As M H E s k=>k1 σ As M H _ s k⟩
theorem QX(h1:fU X z st g .ct g1):dW X z (st::jk) g .ct g1:=by
 obtain⟨t1,q1,k1⟩:=h1
 exact⟨_,eH q1 bu,λσ As M H E s k=>k1 σ As M H _ s k⟩
theorem QZ(h:aA X z e g r g1):fU X z (.Return (some e) pos) g (.rt r) g1:=by
 obtain⟨t,q,k⟩:=h
 exact⟨_,wO q,λσ As M H E s kk=>k σ As M H _ s λv H' aB M' s' st R=>kk v σ aB M' H' s' st R⟩
theorem J7(h:aA X z e g r g1)(hs:swapsWith e none pos.line X.env=pure false):fU X z (.Expr e pos) g .nx g1:=by
 obtain⟨t,q,k⟩:=h
 exact⟨_,sD q hs,λσ As M H E s kk=>k σ As M H _ s λv H' aB M' s' st R=>kk σ aB M' H' s' st⟩
theorem N3(h:cz X z c g v g1)(h2:dW X z (if v then a else b) g1 f g2):fU X z (.If c a b pos) g f g2:=by
 obtain⟨t,q,k⟩:=h
 obtain⟨t2,q2,k2⟩:=h2
 cases v with
 |true=>exact⟨_,n8 q q2 bu,λσ As M H E s kk=>k σ As M H _ s λH' aB M' s' st=>lg (k2 σ aB M' H' E s' (kk.trans st))⟩
 |false=>exact⟨_,n8 q bu q2,λσ As M H E s kk=>k σ As M H _ s λH' aB M' s' st=>qA (k2 σ aB M' H' E s' (kk.trans st))⟩
theorem J8(hN:X.N.Nodup)(hi:X.N[i]?=some x)(hx:Loc X.env.scope x)(h:aA X z e g (.dat d) g1)(hs:swapsWith e (some (.Name x pos')) pos.line X.env=pure false)(hf:X.fn x=true\/X.env.scope.names.lookup x=some .local)(hb:i∉z.bor) :
  fU X z (.Assign [.Name x pos'] e pos) g .nx (g1.set i (.dat d)):=by
 obtain⟨t,q,k⟩:=h
 refine⟨_,oh hN hi hx q hs hf,λσ As M H E s kk=>k σ As M H _ s λv H' aB M' s' st R=>?_⟩
 obtain⟨bw,s2⟩:=s'.gK (i:=i) hb R
 exact kk _ bw M' H' s2 st
theorem J9(hN:X.N.Nodup)(hi:X.N[i]?=some x)(hx:Loc X.env.scope x)(h:aA X z e g (.new l) g1)(hl:i<g1.length)(hs:swapsWith e (some (.Name x pos')) pos.line X.env=pure false)(hf:X.fn x=true\/X.env.scope.names.lookup x=some .local)(hb:i∉z.bor) :
  fU X z (.Assign [.Name x pos'] e pos) g .nx (g1.set i (.own l)):=by
 obtain⟨t,q,k⟩:=h
 refine⟨_,oh hN hi hx q hs hf,λσ As M H E s kk=>k σ As M H _ s λv H' aB M' s' st R=>?_⟩
 obtain⟨a,xs,rfl,hm,hA,h0,ha,rr⟩:=R
 obtain⟨bw,s2⟩:=s'.sS hb hl hm hA h0 ha rr
 exact kk _ bw M' H' s2 st
end
noncomputable def aac(X:Cx)(jk:List Stmt):TS:=λE σ H=>∃t,su X jk t/\t E σ H
theorem zj{X:Cx}{jk:List Stmt}:su X jk (aac X jk):=λah s σ H E I h=>let ⟨t,q,k⟩:=h;q ah s σ H E I k
section
variable{X:Cx}{z:Z}{g g' g1:G}{pos px:Pos}{iter:Expr}{body:List Stmt}{f:Fl}{i:Nat}{x:Str}{l:List D}
theorem drop_cons{α:Type}{l:List α}{n:Nat}{a:α}(h:l[n]?=some a):l.drop n=a::l.drop (n+1):=by
 obtain⟨h1,h2⟩:=aai.mp h
 rw[List.drop_eq_getElem_cons h1,h2]
end
noncomputable def cS(lo:Int)(n:Nat):List D:=(List.range n).map λ(k:Nat)=>D.int (lo+(k:Int))
section
variable{X:Cx}{z:Z}{g g' g1:G}{pos px p rp:Pos}{a b:Expr}{body:List Stmt}{f:Fl}{i:Nat}{x:Str}
theorem Fb{lo:Int}{n k:Nat}(h:k<n):(cS lo n)[k]?=some (.int (lo+(k:Int))):=by
 unfold cS
 rw[abq,List.getElem?_range h]
 rfl
theorem uT{lo:Int}{n:Nat}:(cS lo n).length=n:=by unfold cS;simp
theorem Az(h:cG X z [a] g [.dat (.int j)] g1)(hg:Gl X "range")(hm:X.mg "range" = none)(hs:starEach [a] X.env=[(false,eval a X.env)])(h1 : -(2 ^ 62)<=j)(h2:j<2 ^ 62) :
  ∃wi,PI X tg (.Call (.Name "range" p) [a] [] rp) wi/\∀σ As M H (Q:It->Hp->Prop),S z g σ As M H->(∀H' aB M',S z g1 σ aB M' H'->au M H M' H'->Q (Pq 0 j.toNat) H')->wi σ H Q:=by
 obtain⟨t,q,k⟩:=h
 refine⟨_,Ag hg hm q hs,λσ As M H Q s kk=>k σ As M H _ s λvs H' aB M' s' st R=>?_⟩
 cases R with
 |dat r R=>cases R;cases r;exact⟨j,rfl,h1,h2,kk H' aB M' s' st⟩
theorem Ba(h:cG X z [a,b] g [.dat (.int c),.dat (.int j)] g1)(hg:Gl X "range")(hm:X.mg "range" = none)(hs:starEach [a,b] X.env=[(false,eval a X.env),(false,eval b X.env)])(hs2:starEach [b] X.env=[(false,eval b X.env)])
  (h1 : -(2 ^ 62)<=c/\c<2 ^ 62/\-(2 ^ 62)<=j/\j<2 ^ 62) {tg:Expr} :
  ∃wi,PI X tg (.Call (.Name "range" p) [a,b] [] rp) wi/\∀σ As M H (Q:It->Hp->Prop),S z g σ As M H->(∀H' aB M',S z g1 σ aB M' H'->au M H M' H'->Q (Pq c (j - c).toNat) H')->wi σ H Q:=by
 obtain⟨t,q,k⟩:=h
 refine⟨_,Ah hg hm q hs hs2,λσ As M H Q s kk=>k σ As M H _ s λvs H' aB M' s' st R=>?_⟩
 cases R with
 |dat r R=>cases R with |dat r2 R=>cases R;cases r;cases r2;exact⟨c,j,rfl,h1,kk H' aB M' s' st⟩
end
section
variable{X:Cx}{z:Z}{g g1:G}{pn aQ aG:Pos}{e:Expr}{i:Nat}{x:Str}{l l0:List D}{d:D}
theorem Bb(hN:X.N[i]?=some x)(hv:nI X.env.scope x)(hd:(x==("__debug__" : Str))=false)(bD:(x==("__classdict__" : Str))=false)(hg:g[i]?=some (.own l0))(h:cG X z [e] g [.dat d] g1)(uC:g1[i]?=some (.own l))(hl:l.length<16777216)
  (hbase:attributeBase (.Name x pn) "append" X.env (eval (.Name x pn) X.env)=eval (.Name x pn) X.env)
  (hfew:((backTo aG (starEach [e] X.env)).all (λx=>!x.1)&&(backToKw aG (keywordEach [] X.env)).all (λx=>x.1.isSome)
   && decide ([e].length+([]:List Keyword).length+(if ([]:List Keyword).isEmpty then 0 else 1)<30))=true)
  (hline:(aQ.endLine==aG.line)=true) (hs:starEach [e] X.env=(false,eval e X.env)::starEach [] X.env):aA X z (.Call (.Attribute (.Name x pn) "append" aQ) [e] [] aG) g (.dat .non) (g1.set i (.own (l++[d]))):=by
 obtain⟨t,q,k⟩:=h
 refine⟨_,y9 abN PySem.F.slot_list_append PySem.F.type_list_append kZ (dQ hN hv hd bD) q hbase hfew hline hs rfl,λσ As M H Q s kk=>?_⟩
 obtain⟨a,xs,e1,e2,e3,e4⟩:=s.sl.at hg
 refine⟨.ref a,e1,.inl ⟨rfl,xs,cK.of e3⟩,k σ As M H _ s λvs H' aB M' s' st R=>?_⟩
 obtain⟨b,ys,f1,f2,f3,f4⟩:=s'.sl.at uC
 rw[e1]at f1
 injection f1 with f1;injection f1 with f1;injection f1 with f1
 subst f1
 cases R with
 |dat r R=>
  cases R
  refine⟨a,ys,_,rfl,rfl,f3,by rw[<- f4.length,aaY];exact hl,?_⟩
  obtain⟨s2,aU⟩:=s'.write uC e1 (f4.append (.cons r .nil))
  exact kk _ _ aB M' s2 (st.trans aU) .non
end
section
variable{X:Cx}{z:Z}{g g1 g2:G}{pn aQ aG pos bM:Pos}{e ix:Expr}{i:Nat}{x:Str}{l l0:List D}{d:D}
theorem Ka(hN:X.N[i]?=some x)(hv:nI X.env.scope x)(hd:(x==("__debug__" : Str))=false)(bD:(x==("__classdict__" : Str))=false)(h:aA X z e g (.dat d) g1)(uC:g1[i]?=some (.own l0))(h2:aA X z ix g1 (.dat (.int k)) g2)(Wv:g2[i]?=some (.own l))(hj:qo l.length k=some j)
  (ha:∀v,assign (.Subscript (.Name x pn) ix bM) X.env v=(do
   let ov <- holding [v] (eval (.Name x pn) X.env)
   let iv <- holding [v,ov] (eval ix X.env)
   standAt bM
   holding [v,ov,iv] (setItem ov iv v)
   release [v,ov,iv] []))
  (hs:swapsWithSole [.Subscript (.Name x pn) ix bM] e pos.line X.env=pure false) (hw:swappedStores [.Subscript (.Name x pn) ix bM] e X.env=pure none)
  (h1:(assignEach [.Subscript (.Name x pn) ix bM] X.env).map (·.2)=[assign (.Subscript (.Name x pn) ix bM) X.env]) :
  fU X z (.Assign [.Subscript (.Name x pn) ix bM] e pos) g .nx (g2.set i (.own (l.set j d))):=by
 obtain⟨t,q,kk⟩:=h
 obtain⟨t2,q2,k2⟩:=h2
 refine⟨_,wR q (wQ (dQ hN hv hd bD) q2 set_list ha) hs hw h1,λσ As M H E s kE=>kk σ As M H _ s λv H1 aM M1 s1 cO R1=>?_⟩
 obtain⟨a,xs,e1,e2,e3,e4⟩:=s1.sl.at uC
 refine⟨.ref a,e1,k2 σ aM M1 H1 _ s1 λw H2 bw M2 s2 aU R2=>?_⟩
 obtain⟨b,ys,f1,f2,f3,f4⟩:=s2.sl.at Wv
 rw[e1]at f1
 injection f1 with f1;injection f1 with f1;injection f1 with f1
 subst f1
 have R2':Rep z.K M2 H2 (.int k) w:=R2
 cases R2'
 refine⟨a,ys,k,j,rfl,rfl,f3,by rw[<- f4.length];exact hj,?_⟩
 obtain⟨s3,gF⟩:=s2.write Wv e1 (aI.set (Rep.stay aU R1) j f4)
 exact kE σ bw M2 _ s3 (cO.trans (aU.trans gF))
theorem aI.eraseIdx{K:Frag}{M:List Addr}{H:Hp}:∀{ds:List D}{vs:List V} (n:Nat),aI K M H ds vs->aI K M H (ds.eraseIdx n) (vs.eraseIdx n)
 |_,_,_,.nil=>.nil
 |_,_,0,.cons _ t=>t
 |_,_,n+1,.cons r t=>.cons r (aI.eraseIdx n t)
theorem Fc(hN:X.N[i]?=some x)(hv:nI X.env.scope x)(hd:(x==("__debug__" : Str))=false)(bD:(x==("__classdict__" : Str))=false)(hg:g[i]?=some (.own l0))(h:cG X z [e] g [.dat (.int k)] g1)(uC:g1[i]?=some (.own l))(hk:qo l.length k=some j)(hy:l[j]?=some d)(hl:l.length<16777216)
  (hbase:attributeBase (.Name x pn) "pop" X.env (eval (.Name x pn) X.env)=eval (.Name x pn) X.env)
  (hfew:((backTo aG (starEach [e] X.env)).all (λx=>!x.1)&&(backToKw aG (keywordEach [] X.env)).all (λx=>x.1.isSome)
   && decide ([e].length+([]:List Keyword).length+(if ([]:List Keyword).isEmpty then 0 else 1)<30))=true)
  (hline:(aQ.endLine==aG.line)=true) (hs:starEach [e] X.env=(false,eval e X.env)::starEach [] X.env):aA X z (.Call (.Attribute (.Name x pn) "pop" aQ) [e] [] aG) g (.dat d) (g1.set i (.own (l.eraseIdx j))):=by
 obtain⟨t,q,k0⟩:=h
 refine⟨_,y9 abN PySem.F.slot_list_pop PySem.F.type_list_pop Eh (dQ hN hv hd bD) q hbase hfew hline hs rfl,λσ As M H Q s kk=>?_⟩
 obtain⟨a,xs,e1,e2,e3,e4⟩:=s.sl.at hg
 refine⟨.ref a,e1,.inl ⟨rfl,xs,cK.of e3⟩,k0 σ As M H _ s λvs H' aB M' s' st R=>?_⟩
 obtain⟨b,ys,f1,f2,f3,f4⟩:=s'.sl.at uC
 rw[e1]at f1
 injection f1 with f1;injection f1 with f1;injection f1 with f1
 subst f1
 cases R with
 |dat r R=>
  cases R
  cases r
  obtain⟨h1,h2,h3,h4⟩:=sL hk
  obtain⟨v,g1',g2'⟩:=f4.get hy
  obtain⟨s2,aU⟩:=s'.write uC e1 (aI.eraseIdx j f4)
  refine⟨a,ys,k,j,v,rfl,rfl,f3,by lia,by lia,by rw[<- f4.length];exact h1,g1',?_⟩
  exact kk _ _ aB M' s2 (st.trans aU) (g2'.stay aU)
end
noncomputable def bQ:List R->G->Option G
 | [],_=>some []
 |.dat d::rs,g=>match bQ rs g with |some gs=>some (.dat d::gs) |none=>none
 |.var i::rs,g=>match g[i]? with
  |some (.own l)=>match bQ rs g with |some gs=>some (.own l::gs) |none=>none
  |_=>none
 |.new _::_,_=>none
noncomputable def vars:Nat->List R->List (Nat×Nat)
 |_,[]=>[]
 |j,.var i::rs=>(j,i)::vars (j+1) rs
 |j,.dat _::rs=>vars (j+1) rs
 |j,.new _::rs=>vars (j+1) rs
noncomputable def back:List (Nat×Nat)->G->G->Option G
 | [],_,g=>some g
 | (j,i)::ps,gc,g=>match gc[j]? with
  |some (.own l)=>back ps gc (g.set i (.own l))
  |_=>none
noncomputable def dz(bor:List Nat)(g':G):R->Option R
 |.dat d=>some (.dat d)
 |.new l=>some (.new l)
 |.var j=>if j∈bor then none else match g'[j]? with |some (.own l)=>some (.new l) |_=>none
noncomputable def adr(σ:Sg)(i:Nat):Addr:=match σ[i]? with |some (some (.ref a))=>a |_=>0
theorem jC(h:σ[i]?=some (some (.ref a))):adr σ i=a:=by unfold adr;rw[h]
noncomputable def cg(σ:Sg)(ps:List (Nat×Nat)):List (Nat×Addr):=ps.map λp=>(p.1,adr σ p.2)
noncomputable def cT(n:Nat)(gs:G):G:=gs++List.replicate (n - gs.length) .no
theorem Slots.append{K:Frag}{M:List Addr}{H:Hp}{g1 g2:G}{σ1 σ2:Sg}{A1 A2:List Addr}(p:Slots K M H g1 σ1 A1)(q:Slots K M H g2 σ2 A2):Slots K M H (g1++g2) (σ1++σ2) (A1++A2):=by
 induction p with
 |nil=>exact q
 |no p ih=>exact .no ih
 |dat r p ih=>exact .dat r ih
 |own e r p ih=>exact .own e r ih
theorem Slots.YD{K:Frag}{M:List Addr}{H:Hp}:∀(n:Nat),Slots K M H (List.replicate n .no) (List.replicate n none) []
 | 0=>.nil
 |n+1=>by rw[aa3,aa3];exact .no (Slots.YD n)
section
variable{z:Z}{g:G}{σ:Sg}{As M:List Addr}{H:Hp}
theorem Slots.zm{K:Frag}{g:G}{σ:Sg}{As:List Addr}{i j:Nat}{a:Addr}{l l':List D}(q:Slots K M H g σ As)(nd:As.Nodup)(e1:g[i]?=some (.own l))(e2:g[j]?=some (.own l'))(e3:σ[i]?=some (some (.ref a)))(e4:σ[j]?=some (some (.ref a))):i=j:=by
 induction q generalizing i j with
 |nil=>exact nomatch (show none=some (Slot.own l)from e1)
 |no q ih=>cases i with
  |zero=>exact nomatch (show some Slot.no=some (Slot.own l)from e1)
  |succ i=>cases j with
   |zero=>exact nomatch (show some Slot.no=some (Slot.own l')from e2)
   |succ j=>exact congrArg (· + 1) (ih nd e1 e2 e3 e4)
 |dat r q ih=>cases i with
  |zero=>exact nomatch (show some (Slot.dat _)=some (Slot.own l)from e1)
  |succ i=>cases j with
   |zero=>exact nomatch (show some (Slot.dat _)=some (Slot.own l')from e2)
   |succ j=>exact congrArg (· + 1) (ih nd e1 e2 e3 e4)
 |@own g σ As b xs ds h r q ih=>
  have no:∀{i:Nat}{l:List D},g[i]?=some (.own l)->σ[i]?=some (some (.ref a))->b=a->False:=λ{i l} e1 e3 e=>by
   obtain⟨c,xs,h1,h2,_⟩:=q.at e1
   cases (show some (some (V.ref c))=some (some (V.ref a))from h1.symm.trans e3)
   exact (aay.mp nd).1 (e▸h2)
  cases i with
  |zero=>cases j with
   |zero=>rfl
   |succ j=>cases (show some (some (V.ref b))=some (some (V.ref a))from e3);exact (no e2 e4 rfl).elim
  |succ i=>cases j with
   |zero=>cases (show some (some (V.ref b))=some (some (V.ref a))from e4);exact (no e1 e3 rfl).elim
   |succ j=>exact congrArg (· + 1) (ih (aay.mp nd).2 e1 e2 e3 e4)
theorem oU(s:S z g σ As M H)(j:Nat)(q:jB z σ M H rs vs)(e:bQ rs g=some gs) :
  gs.length=vs.length/\Slots z.K M H gs (vs.map some) ((cg σ (vars j rs)).map (·.2))/\
  (∀p∈cg σ (vars j rs),∃n l,p.1=j+n/\gs[n]?=some (.own l)/\vs[n]?=some (.ref p.2))/\
  (∀n l a,gs[n]?=some (.own l)->vs[n]?=some (.ref a)->(j+n,a)∈cg σ (vars j rs))/\
  (∀p∈vars j rs,∃l a,g[p.2]?=some (.own l)/\σ[p.2]?=some (some (.ref a))/\a∈As):=by
 induction q generalizing gs j with
 |nil=>cases e;exact⟨rfl,.nil,(λp hp=>nomatch hp),(λn l a h=>by simp at h),(λp hp=>nomatch hp)⟩
 |@dat d v rs vs r q ih=>
  unfold bQ at e
  cases e2:bQ rs g with
  |none=>rw[e2]at e;cases e
  |some gs=>
   rw[e2]at e;cases e
   obtain⟨h1,h2,h3,h4,h5⟩:=ih (j+1) e2
   refine⟨by simp[h1],.dat r h2,λp hp=>?_,λn l a e1 e3=>?_,h5⟩
   .
    obtain⟨n,l,q1,q2,q3⟩:=h3 p hp
    exact⟨n+1,l,by lia,by simpa using q2,by simpa using q3⟩
   .
    cases n with
    |zero=>simp at e1
    |succ n=>
     have:=h4 n l a (by simpa using e1) (by simpa using e3)
     rw[show j+(n+1)=j+1+n by lia]
     exact this
 |@var i v rs vs r q ih=>
  unfold bQ at e
  split at e
  .
   rename_i l hg
   cases e2:bQ rs g with
   |none=>rw[e2]at e;cases e
   |some gs=>
    rw[e2]at e;cases e
    obtain⟨h1,h2,h3,h4,h5⟩:=ih (j+1) e2
    obtain⟨a,xs,f1,f2,f3,f4⟩:=s.sl.at hg
    have ea:adr σ i=a:=jC f1
    rw[r]at f1
    injection f1 with f1;injection f1 with f1
    subst f1
    have el:cg σ (vars j (.var i::rs))=(j,a)::cg σ (vars (j+1) rs):=by
     show (j,adr σ i)::cg σ (vars (j+1) rs)=_
     rw[ea]
    rw[el]
    refine⟨by simp[h1],.own f3 f4 h2,λp hp=>?_,λn l' b e1 e3=>?_,λp hp=>?_⟩
    .
     rcases aaj.mp hp with rfl |hp
     .
      exact⟨0,l,rfl,rfl,rfl⟩
     .
      obtain⟨n,l,q1,q2,q3⟩:=h3 p hp
      exact⟨n+1,l,by lia,by simpa using q2,by simpa using q3⟩
    .
     cases n with
     |zero=>
      have e4:a=b:=by simpa using e3
      subst e4
      exact aah
     |succ n=>
      have:=h4 n l' b (by simpa using e1) (by simpa using e3)
      rw[show j+(n+1)=j+1+n by lia]
      exact aaf _ this
    .
     rcases aaj.mp (show p∈(j,i)::vars (j+1) rs from hp)with rfl |hp
     .
      exact⟨l,a,hg,r,f2⟩
     .
      exact h5 p hp
  .
   cases e
theorem rq{α β:Type}{f:α->β}:∀{l:List α},l.Nodup->(∀a∈l,∀b∈l,f a=f b->a=b)->(l.map f).Nodup
 | [],_,_=>abg
 |x::l,nd,h=>by
  rw[List.map_cons]
  refine aay.mpr ⟨λhm=>?_,rq (aay.mp nd).2 λa ha b hb=>h a (aaf _ ha) b (aaf _ hb)⟩
  obtain⟨y,hy,e⟩:=aaD.mp hm
  have:=h y (aaf _ hy) x aah e
  exact (aay.mp nd).1 (this▸hy)
noncomputable def rz(z:Z)(σ:Sg)(M:List Addr)(H:Hp)(rs:List R):Z:=⟨z.K,H,M,cg σ (vars 0 rs),z.T⟩
theorem lA:(rz z σ M H rs).bor=(vars 0 rs).map (·.1):=by
 show (cg σ (vars 0 rs)).map (·.1)=_
 unfold cg
 rw[List.map_map]
 rfl
theorem S.enter(s:S z g σ As M H){rs:List R}{vs:List V}{gs:G}{N:List Str}(r:jB z σ M H rs vs)(e:bQ rs g=some gs)(nd:((vars 0 rs).map (·.2)).Nodup) :
  S (rz z σ M H rs) (cT N.length gs) (start N vs) ((cg σ (vars 0 rs)).map (·.2)) M H:=by
 obtain⟨h1,h2,h3,h4,h5⟩:=oU s 0 r e
 have eB:(cg σ (vars 0 rs)).map (·.2)=((vars 0 rs).map (·.2)).map (adr σ):=by unfold cg;rw[List.map_map,List.map_map];rfl
 have mem:∀b∈(cg σ (vars 0 rs)).map (·.2),b∈As:=λb hb=>by
  rw[eB]at hb
  obtain⟨i,hi,e⟩:=aaD.mp hb
  obtain⟨p,hp,e'⟩:=aaD.mp hi
  obtain⟨l,a,q1,q2,q3⟩:=h5 p hp
  subst e'
  rw[jC q2]at e
  subst e
  exact q3
 have pre:∀{n:Nat}{o:Slot},gs[n]?=some o->(cT N.length gs)[n]?=some o:=λ{n o} q=>by
  unfold cT
  rw[aat (aai.mp q).1]
  exact q
 have ownB:∀(n:Nat) (l:List D),(cT N.length gs)[n]?=some (.own l)->gs[n]?=some (.own l):=λn l q=>by
  unfold cT at q
  rcases abA n gs.length with h |h
  .
   rw[aat h]at q;exact q
  .
   rw[aam h]at q
   have:=aaP q
   rw[abB]at this
   exact absurd this.2 (by simp)
 have st:∀{n:Nat}{v:V},vs[n]?=some v->(start N vs)[n]?=some (some v):=λ{n v} q=>by
  unfold L2.start
  rw[aat (by rw[aaA];exact (aai.mp q).1),abq,q]
  rfl
 have st':∀{n:Nat}{v:V},(start N vs)[n]?=some (some v)->vs[n]?=some v:=λ{n v} q=>by
  unfold L2.start at q
  rcases abA n vs.length with h |h
  .
   rw[aat (by rw[aaA];exact h),abq]at q
   cases e:vs[n]? with
   |none=>rw[e]at q;cases q
   |some w=>rw[e]at q;injection q with q
  .
   rw[aam (by rw[aaA];exact h)]at q
   have:=aaP q
   rw[abB]at this
   exact absurd this.2 (by simp)
 refine⟨?_,?_,λa ha=>s.sub a (mem a ha),λn a l q1 q2=>.inl ?_,s.live,λb o e _ _=>e,λm hm=>hm,λm hm=>?_,λb hb=>s.sub b (mem b hb),λp hp=>?_,s.tab,λp hp=>s.iX _ (s.tm p hp),s.tt⟩
 .
  have q:=h2.append (Slots.YD (K:=z.K) (M:=M) (H:=H) (N.length - gs.length))
  rw[aaV]at q
  have e':start N vs=vs.map some++List.replicate (N.length - gs.length) none:=by unfold L2.start;rw[h1]
  rw[e']
  exact q
 .
  rw[eB]
  refine rq nd λi hi j hj e=>?_
  obtain⟨p,hp,rfl⟩:=aaD.mp hi
  obtain⟨p',Dp,rfl⟩:=aaD.mp hj
  obtain⟨l,a,q1,q2,q3⟩:=h5 p hp
  obtain⟨l',a',zb,xB,Bc⟩:=h5 p' Dp
  rw[jC q2,jC xB]at e
  subst e
  exact s.sl.zm s.nd q1 zb q2 xB
 .
  have hm:=h4 n l a (ownB n l q1) (st' q2)
  rw[Nat.zero_add]at hm
  exact⟨abb (f:=(·.1)) hm,abb (f:=(·.2)) hm⟩
 .
  exact λe=>s.fresh e hm
 .
  obtain⟨n,l,q1,q2,q3⟩:=h3 p hp
  rw[Nat.zero_add]at q1
  rw[q1]
  exact⟨st q3,l,pre q2⟩
theorem Slots.transfer{K:Frag}{M M2:List Addr}{H H':Hp}(st:au M H M2 H'){g g2:G}{σ:Sg}{As:List Addr}(q:Slots K M H g σ As)(hl:g2.length=g.length)
  (h1:∀(i:Nat) (l:List D) (a:Addr),g[i]?=some (.own l)->σ[i]?=some (some (.ref a))->∃l' xs',g2[i]?=some (.own l')/\H' a=some (.lst xs')/\aI K M2 H' l' xs')
  (h2:∀(i:Nat) (o:Slot),g[i]?=some o->(∀l,o≠.own l)->g2[i]?=some o):Slots K M2 H' g2 σ As:=by
 induction q generalizing g2 with
 |nil=>cases g2 with
  |nil=>exact .nil
  |cons a b=>cases hl
 |no q ih=>cases g2 with
  |nil=>cases hl
  |cons a b=>
   cases (show some a=some Slot.no from h2 0 .no rfl (λl z=>nomatch z))
   exact .no (ih (acs hl) (λi l a e1 e2=>h1 (i+1) l a e1 e2) λi o e1 e2=>h2 (i+1) o e1 e2)
 |@dat g σ As v d r q ih=>cases g2 with
  |nil=>cases hl
  |cons a b=>
   cases (show some a=some (Slot.dat d)from h2 0 (.dat d) rfl (λl z=>nomatch z))
   exact .dat (r.stay st) (ih (acs hl) (λi l a e1 e2=>h1 (i+1) l a e1 e2) λi o e1 e2=>h2 (i+1) o e1 e2)
 |@own g σ As a0 xs ds e0 r q ih=>cases g2 with
  |nil=>cases hl
  |cons a b=>
   obtain⟨l',xs',e1,e2,e3⟩:=h1 0 _ a0 rfl rfl
   cases (show some a=some (Slot.own l')from e1)
   exact .own e2 e3 (ih (acs hl) (λi l a e1 e2=>h1 (i+1) l a e1 e2) λi o e1 e2=>h2 (i+1) o e1 e2)
theorem rA:∀{ps:List (Nat×Nat)}{g gO:G},back ps gc g=some gO->(ps.map (·.2)).Nodup->gO.length=g.length/\
  (∀i,i∉ps.map (·.2)->gO[i]?=g[i]?)/\∀p∈ps,p.2<g.length->∃l,gc[p.1]?=some (.own l)/\gO[p.2]?=some (.own l)
 | [],g,gO,e,_=>by cases e;exact⟨rfl,λ_ _=>rfl,λp hp=>nomatch hp⟩
 | (j,i)::ps,g,gO,e,nd=>by
  unfold back at e
  split at e
  .
   rename_i l hg
   obtain⟨h1,h2,h3⟩:=rA e (aay.mp nd).2
   refine⟨by rw[h1,aa2],λk hk=>?_,λp hp uz=>?_⟩
   .
    have n1:k∉ps.map (·.2):=λz=>hk (aaf _ z)
    have n2:i≠k:=λz=>hk (z▸aah)
    rw[h2 k n1,aar n2]
   .
    rcases aaj.mp hp with rfl |hp
    .
     refine⟨l,hg,?_⟩
     have hlt':i<g.length:=uz
     rw[h2 i (aay.mp nd).1,aax hlt']
    .
     exact h3 p hp (by rw[aa2];exact uz)
  .
   cases e
theorem S.leave(s:S z g σ As M H){rs:List R}{vs:List V}{gs gc gO:G}{σc:Sg}{Ac Mc:List Addr}{Hc:Hp}{r r':R}{v:V}(rw':jB z σ M H rs vs)(e:bQ rs g=some gs)(nd:((vars 0 rs).map (·.2)).Nodup)
  (sc:S (rz z σ M H rs) gc σc Ac Mc Hc) (st:au M H Mc Hc) (q:cL (rz z σ M H rs) gc σc Ac Mc Hc r v) (hb:back (vars 0 rs) gc g=some gO) (hr:dz ((vars 0 rs).map (·.1)) gc r=some r') :
  ∃M2,S z gO σ As M2 Hc/\au M H M2 Hc/\cL z gO σ As M2 Hc r' v:=by
 obtain⟨h1,h2,h3,h4,h5⟩:=oU s 0 rw' e
 obtain⟨b1,b2,b3⟩:=rA hb nd
 have hM:∀m∈M,m∈Mc:=sc.iX
 have core:∀M2:List Addr,(∀m∈M,m∈M2)->(∀m∈M2,m∈Mc)->au M H M2 Hc->S z gO σ As M2 Hc:=by
  intro M2 m1 m2 aU
  refine⟨s.sl.transfer aU b1 (λi l a e1 e2=>?_) (λi o e1 e2=>?_),s.nd,λa ha=>m1 a (s.sub a ha),λi a l e1 e2=>?_,λm hm=>sc.live m (m2 m hm),λb o e1 e2 et=>?_,λm hm=>m1 m (s.iX m hm),s.m0,s.bm,λp hp=>⟨(s.jT p hp).1,?_⟩,sc.tab,s.tm,s.tt⟩
  .
   by_cases hi:i∈(vars 0 rs).map (·.2)
   .
    obtain⟨p,hp,rfl⟩:=aaD.mp hi
    obtain⟨l',q1,q2⟩:=b3 p hp (aai.mp e1).1
    have hl:(p.1,adr σ p.2)∈cg σ (vars 0 rs):=abb (f:=λp:Nat×Nat=>(p.1,adr σ p.2)) hp
    obtain⟨c1,c2⟩:=sc.jT _ hl
    obtain⟨a',xs,d1,d2,d3,d4⟩:=sc.sl.at q1
    rw[c1]at d1
    injection d1 with d1;injection d1 with d1;injection d1 with d1
    rw[jC e2]at d1
    subst d1
    exact⟨l',xs,q2,d3,aI.stay (au.less m2) d4⟩
   .
    obtain⟨a',xs,d1,d2,d3,d4⟩:=s.sl.at e1
    rw[e2]at d1
    injection d1 with d1;injection d1 with d1;injection d1 with d1
    subst d1
    refine⟨l,xs,by rw[b2 i hi];exact e1,sc.keep a _ d3 (λhB=>?_) (s.NZ d3),d4.stay aU⟩
    obtain⟨p,hp,ep⟩:=aaD.mp (show a∈(cg σ (vars 0 rs)).map (·.2)from hB)
    obtain⟨p',Dp,rfl⟩:=aaD.mp hp
    obtain⟨l2,a2,q1,q2,q3⟩:=h5 p' Dp
    have Jq:adr σ p'.2=a:=ep
    rw[jC q2]at Jq
    subst Jq
    have:=s.sl.zm s.nd e1 q1 e2 q2
    exact hi (this▸abb (f:=(·.2)) Dp)
  .
   refine (b2 i λhi=>?_).trans e1
   obtain⟨p,hp,rfl⟩:=aaD.mp hi
   obtain⟨l2,a2,q1,q2,q3⟩:=h5 p hp
   rw[e1]at q1
   injection q1 with q1
   exact e2 l2 q1
  .
   by_cases hi:i∈(vars 0 rs).map (·.2)
   .
    obtain⟨p,hp,rfl⟩:=aaD.mp hi
    obtain⟨l2,a2,q1,q2,q3⟩:=h5 p hp
    exact s.own p.2 a l2 q1 e2
   .
    rw[b2 i hi]at e1
    exact s.own i a l e1 e2
  .
   have e3:=s.keep b o e1 e2 et
   refine sc.keep b o e3 (λhB=>?_) et
   obtain⟨p,hp,ep⟩:=aaD.mp (show b∈(cg σ (vars 0 rs)).map (·.2)from hB)
   obtain⟨p',Dp,rfl⟩:=aaD.mp hp
   obtain⟨l2,a2,q1,q2,q3⟩:=h5 p' Dp
   have Jq:adr σ p'.2=b:=ep
   rw[jC q2]at Jq
   subst Jq
   rcases s.own p'.2 a2 l2 q1 q2 with w |w
   .
    exact e2 w.2
   .
    rw[w]at e1;cases e1
  .
   by_cases hi:p.1∈(vars 0 rs).map (·.2)
   .
    obtain⟨p',Dp,e'⟩:=aaD.mp hi
    have e'':p'.2=p.1:=e'
    obtain⟨l2,a2,q1,q2,q3⟩:=h5 p' Dp
    obtain⟨l',zb,xB⟩:=b3 p' Dp (aai.mp q1).1
    exact⟨l',by rw[<- e''];exact xB⟩
   .
    rw[b2 p.1 hi]
    exact (s.jT p hp).2
 have new:∀(a:Addr) (xs:List V) (l:List D),v=.ref a->a∈Mc->H a=none->Hc a=some (.lst xs)->aI z.K Mc Hc l xs->∃M2,S z gO σ As M2 Hc/\au M H M2 Hc/\cL z gO σ As M2 Hc (.new l) v:=by
  intro a xs l ev hm h0 hx rr
  have m2:∀m∈a::M,m∈Mc:=λm hm'=>(aaj.mp hm').elim (λe=>e▸hm) (hM m)
  have aU:au M H (a::M) Hc:=st.trans (au.less m2)
  refine⟨a::M,core _ (λm hm'=>aaf _ hm') m2 aU,aU,a,xs,ev,aah,λhA=>?_,s.cQ h0,hx,rr.stay (au.less m2)⟩
  exact s.fresh h0 (s.sub a hA)
 cases r with
 |dat d=>
  cases hr
  have aU:au M H M Hc:=st.trans (au.less hM)
  exact⟨M,core M (λm h=>h) hM aU,aU,Rep.stay (au.less hM) q⟩
 |new l=>
  cases hr
  obtain⟨a,xs,rfl,c1,c2,c3,c4,c5⟩:=q
  exact new a xs l rfl c1 c3 c4 c5
 |var j=>
  obtain⟨l,q1,q2⟩:=q
  have hr:(if j∈(vars 0 rs).map (·.1)then none else match gc[j]? with |some (.own l)=>some (R.new l) |_=>none)=some r':=hr
  split at hr
  .
   cases hr
  .
   rename_i hj
   rw[q1]at hr
   cases hr
   obtain⟨a,xs,d1,d2,d3,d4⟩:=sc.sl.at q1
   rw[q2]at d1
   injection d1 with d1;injection d1 with d1
   subst d1
   refine new a xs l rfl (sc.sub a d2) ?_ d3 d4
   rcases sc.own j a l q1 q2 with w |w
   .
    have w':=w.1
    rw[lA]at w'
    exact absurd w' hj
   .
    exact w
end
theorem jB.length(q:jB z σ M H rs vs):vs.length=rs.length:=by
 induction q with
 |nil=>rfl
 |dat r q ih=>exact congrArg (· + 1) ih
 |var r q ih=>exact congrArg (· + 1) ih
noncomputable def Kc(K:Frag)(N:List Str)(np:Nat)(run:List Nat->G->R->G->Prop):Sp:=λvs H Q _=>
 vs.length=np/\∃(z:Z) (g g':G) (As M:List Addr) (r:R),z.K=K/\S z g (start N vs) As M H/\run z.bor g r g'/\
  ∀v σ' aB M' H',S z g' σ' aB M' H'->au M H M' H'->cL z g' σ' aB M' H' r v->Q v H'
section
variable{X:Cx}{z:Z}{g g1 gs gc gO:G}{k:Nat}{f:Addr}{fd:FuncData}{ps N:List Str}{x:Str}{p pos:Pos}{e:Expr}{es:List Expr}{rs:List R}{r r':R}{run:List Nat->G->R->G->Prop}
theorem zo(F:iW X.prog X.w X.K X.mg X.base uB k f fd ps (Kc X.K N ps.length run))(hK:z.K=X.K)(hr:cu k X.A)(hg:Gl X x)(hm:X.mg x=some (.ref f))(hk:PySem.W.keepIn X.K (.ref f)=true)(hb:Binds X.K fd ps [])
  (ha:cG X z (e::es) g rs g1) (aL:rs.length=ps.length) (hl:bQ rs g1=some gs) (nd:((vars 0 rs).map (·.2)).Nodup) (hrun:run ((vars 0 rs).map (·.1)) (cT N.length gs) r gc) (Fd:back (vars 0 rs) gc g1=some gO) (ho:dz ((vars 0 rs).map (·.1)) gc r=some r')
  (jy:(x==("__debug__" : Str))=false) (he:starEach (e::es) X.env=(false,eval e X.env)::starEach es X.env) (iu:(backTo pos (starEach es X.env)).any (·.1)=false) :
  aA X z (.Call (.Name x p) (e::es) [] pos) g r' gO:=by
 obtain⟨t,q,kk⟩:=ha
 refine⟨_,yU F hr hg hm hk hb .nil NT q jy he iu,λσ As M H Q s kq=>kk σ As M H _ s λvs H1 aM M1 s1 cO R1=>?_⟩
 have hv:vs.length=rs.length:=R1.length
 have ee:=s1.enter (N:=N) R1 hl nd
 refine⟨by rw[aaV,hv];exact aL,rz z σ M1 H1 rs,cT N.length gs,gc,_,M1,r,hK,by rw[aaV];exact ee,by rw[lA];exact hrun,λv σ' aB M' H' s' st' R'=>?_⟩
 obtain⟨M2,s2,aU,R2⟩:=s1.leave R1 hl nd s' st' R' Fd ho
 exact kq v H' aM M2 s2 (cO.trans aU) R2
theorem zp{P:Program}{w:World}{K:Frag}{mg:Str->Option Value}{base:Heap}{qual:Str}{st:Stmt}(F:Jd K x qual st f fd)(Sc:bV N ps (aD st))
  (h:∀(bB:Value) (A:Around) (outer:List Env) (s:Shared) (H:Hp) (E:XK),PySem.W.codeIn K bB qual=true->cu k (A.deeper (envOfC qual (aD st) s⁻¹ f bB))->
   ∀(z:Z) (g:G) (r:R) (g':G),z.K=K->run z.bor g r g'->∃fl,dW (fL uB P w K mg base N qual (aD st) f bB A outer s H E).mj z (cD st) g fl g'/\(fl=.rt r\/(fl=.nx/\r=.dat .non))) :
  iW P w K mg base uB (k+1) f fd ps (Kc K N ps.length run):=by
 obtain⟨oc,od,kV,doc,pm,an,bB,ct,osl,rfl,lk,bD⟩:=F.ex
 refine NR lk bD Sc (λvs H Q E q=>q.1) λA outer s H vs Q E hr ⟨_,z,g,g',As,M,r,hK,hs,hrun,hQ⟩=>?_
 obtain⟨fl,⟨t,q,kk⟩,hfl⟩:=h bB A outer s H E bD hr z g r g' hK hrun
 refine⟨t,q.mj,kk _ As M H _ hs ?_⟩
 rcases hfl with rfl |⟨rfl,rfl⟩
 .
  exact λv σ' aB M' H' s' st' R'=>hQ v σ' aB M' H' s' st' R'
 .
  exact λσ' aB M' H' s' st'=>hQ .non σ' aB M' H' s' st' .non
end
inductive Tg where
 |nm (i:Nat) |tp (is:List Nat)
noncomputable def sY:List Nat->List D->G->G
 |i::is,d::ds,g=>sY is ds (g.set i (.dat d))
 | [],_,g=>g
 |_::_,[],g=>g
noncomputable def Tg.ix:Tg->List Nat
 |.nm i=>[i]
 |.tp is=>is
noncomputable def Tg.set:Tg->D->G->Option G
 |.nm i,d,g=>some (g.set i (.dat d))
 |.tp is,.tup ds,g=>if ds.length=is.length then some (sY is ds g)else none
 |.tp _,_,_=>none
def zq(is:List Nat)(σ σ':Sg):Prop:=σ'.length=σ.length/\∀j,j∉is->σ'[j]?=σ[j]?
theorem zq.refl(is:List Nat)(σ:Sg):zq is σ σ:=⟨rfl,λ_ _=>rfl⟩
theorem zq.trans{is:List Nat}{σ σ1 σ2:Sg}(a:zq is σ σ1)(b:zq is σ1 σ2):zq is σ σ2:=⟨b.1.trans a.1,λj h=>(b.2 j h).trans (a.2 j h)⟩
theorem zq.mono(h:∀i∈is,i∈js)(a:zq is σ σ'):zq js σ σ':=⟨a.1,λj hj=>a.2 j λz=>hj (h j z)⟩
noncomputable def uU(X:Cx)(z:Z)(tg:Expr)(T:Tg):Prop:=∃t,PG X tg t/\∀d g g',T.set d g=some g'->∀v σ As M H (Q:Sg->Hp->Prop),S z g σ As M H->Rep z.K M H d v->(∀σ' aB,S z g' σ' aB M H->zq T.ix σ σ'->Q σ' H)->t v σ H Q
structure Fe(X:Cx)(x:Str)(i:Nat):Prop where
 nd:X.N.Nodup
 ix:X.N[i]?=some x
 lc:Loc X.env.scope x
 fn:X.fn x=true\/X.env.scope.names.lookup x=some .local
section
variable{X:Cx}{z:Z}{pos:Pos}
theorem Ww(h:Fe X x i)(hb:i∉z.bor):uU X z (.Name x pos) (.nm i):=
 ⟨_,sE h.nd h.ix h.lc h.fn,λd g g' e v σ As M H Q s r k=>by
  cases e
  obtain⟨aB,s'⟩:=s.gK (i:=i) hb r
  exact k _ aB s' ⟨by rw[aa2],λj hj=>by rw[aar (λe=>hj (by rw[<- e];exact aaC.mpr rfl))]⟩⟩
inductive j9(X:Cx):List Expr->List Nat->Prop
 |nil:j9 X [] []
 |cons {x:Str}{p:Pos}{i:Nat}{es:List Expr}{is:List Nat}:Fe X x i->j9 X es is->j9 X (.Name x p::es) (i::is)
theorem j9.plain(h:j9 X es is):(assignEach es X.env).length=is.length/\(assignEach es X.env).findIdx? (·.1)=none:=by
 induction h with
 |nil=>exact⟨rfl,rfl⟩
 |cons _ _ ih=>
  refine⟨?_,?_⟩
  .
   show (assignEach _ X.env).length+1=_
   rw[ih.1];rfl
  .
   show List.findIdx? _ ((false,assign _ X.env)::assignEach _ X.env)=none
   rw[List.findIdx?_cons,ih.2]
   rfl
theorem j9.pgs(h:j9 X es is)(hb:∀i∈is,i∉z.bor):∃t,VB X es t/\∀ds vs g σ As M H (Q:Sg->Hp->Prop),ds.length=is.length->S z g σ As M H->aI z.K M H ds vs->(∀σ' aB,S z (sY is ds g) σ' aB M H->zq is σ σ'->Q σ' H)->t vs σ H Q:=by
 induction h with
 |nil=>
  refine⟨_,yR,λds vs g σ As M H Q hl s r k=>?_⟩
  cases r with
  |nil=>exact⟨rfl,k σ As s (zq.refl _ _)⟩
  |cons _ _=>simp at hl
 |@cons x p i es is hn hs ih=>
  obtain⟨t,q,kk⟩:=ih λj hj=>hb j (aaf _ hj)
  refine⟨_,n9 (sE hn.nd hn.ix hn.lc hn.fn) q rfl,λds vs g σ As M H Q hl s r k=>?_⟩
  cases r with
  |nil=>simp at hl
  |@cons d ds v vs r rs=>
   obtain⟨aM,s1⟩:=s.gK (i:=i) (hb i aah) r
   refine⟨v,vs,rfl,kk ds vs _ _ aM M H Q (by simpa using hl) s1 rs λσ' aB s' a=>k σ' aB s' ?_⟩
   refine zq.trans ⟨by rw[aa2],λj hj=>?_⟩ (a.mono λj hj=>aaf _ hj)
   rw[aar (λe=>hj (by rw[<- e];exact aah))]
theorem Wx(hc:X.calm=true)(hK:z.K=X.K)(h:j9 X es is)(hb:∀i∈is,i∉z.bor):uU X z (.Tuple es k pos) (.tp is):=by
 obtain⟨t,q,kk⟩:=h.pgs (z:=z) hb
 refine⟨_,DR (n:=is.length) hc q h.plain.1 h.plain.2,λd g g' e v σ As M H Q s r k=>?_⟩
 cases d with
 |tup ds=>
  have e:(if ds.length=is.length then some (sY is ds g)else none)=some g':=e
  by_cases hl:ds.length=is.length
  .
   rw[aav hl]at e
   cases e
   cases r with
   |@tup _ a xs ha rr=>exact⟨a,xs,rfl,hK▸ha.sq,by rw[<- rr.length];exact hl,kk ds xs g σ As M H Q hl s rr k⟩
  .
   rw[aau hl]at e;cases e
 |_=>cases e
def Jt(J:It)(items:List D)(K:Frag)(M1:List Addr)(H1:Hp):Prop:=
 ∀M2 H2,au M1 H1 M2 H2->(∀n d,items[n]?=some d->J.go n H2/\∀x H',J.Yt n H2 x H'->∀(z:Z) g σ As,z.K=K->S z g σ As M2 H2->S z g σ As M2 H'/\au M2 H2 M2 H'/\Rep K M2 H' d x)/\J.stop items.length H2
def iE(X:Cx)(z:Z)(tg iter:Expr)(g:G)(items:List D)(g1:G):Prop:=
 ∃wi,PI X tg iter wi/\∀σ As M H (R:It->Hp->Prop),S z g σ As M H->(∀J H' aB M',S z g1 σ aB M' H'->au M H M' H'->Jt J items z.K M' H'->R J H')->wi σ H R
variable{tg iter:Expr}{g g1:G}
theorem Q5(hK:z.K=X.K)(h:aA X z iter g (.dat (.tup l)) g1):iE X z tg iter g l g1:=by
 obtain⟨t,q,k⟩:=h
 refine⟨_,Pu q,λσ As M H R s kk=>k σ As M H _ s λv H1 aM M1 s1 cO r=>?_⟩
 have r':Rep z.K M1 H1 (.tup l) v:=r
 cases r' with
 |@tup _ a xs ha rr=>
  refine⟨a,rfl,⟨xs,hK▸ha.sq⟩,kk _ H1 aM M1 s1 cO λM2 H2 aU=>?_⟩
  have r2:=Rep.stay aU (Rep.tup ha rr)
  have ha2:TupAt z.K M2 H2 a xs:=by
   rcases ha with ⟨na,hr⟩ |hk
   .
    exact .inl (aU.rd na hr)
   .
    exact .inr hk
  have N4:=rr.stay aU
  refine⟨λn d hd=>?_,xs,hK▸ha2.sq,by rw[rr.length];exact aal _⟩
  obtain⟨x,e1,e2⟩:=N4.get hd
  refine⟨⟨xs,x,hK▸ha2.sq,e1⟩,λy H' hy z' g' σ' aB _ s'=>?_⟩
  obtain⟨rfl,hy⟩:=hy
  have:=hy xs (hK▸ha2.sq)
  rw[e1]at this
  cases this
  exact⟨s',au.refl _ _,e2⟩
theorem Q6(h:aA X z iter g (.dat (.lst l)) g1):iE X z tg iter g l g1:=by
 obtain⟨t,q,k⟩:=h
 refine⟨_,sF q,λσ As M H R s kk=>k σ As M H _ s λv H1 aM M1 s1 cO r=>?_⟩
 have r':Rep z.K M1 H1 (.lst l) v:=r
 cases r' with
 |@lst _ a xs ha rr=>
  refine⟨a,rfl,⟨xs,cK.of ha.2⟩,kk _ H1 aM M1 s1 cO λM2 H2 aU=>?_⟩
  have ha2:=(aU _ _ ha.2 ha.1).1
  have N4:=rr.stay aU
  refine⟨λn d hd=>?_,xs,cK.of ha2,by rw[rr.length];exact aal _⟩
  obtain⟨x,e1,e2⟩:=N4.get hd
  refine⟨⟨xs,x,cK.of ha2,e1⟩,λy H' hy z' g' σ' aB _ s'=>?_⟩
  obtain⟨rfl,hy⟩:=hy
  have:=hy xs (cK.of ha2)
  rw[e1]at this
  cases this
  exact⟨s',au.refl _ _,e2⟩
theorem Q7(hK:z.K=X.K)(h:aA X z iter g (.dat (.fix l)) g1):iE X z tg iter g l g1:=by
 obtain⟨t,q,k⟩:=h
 refine⟨_,sF q,λσ As M H R s kk=>k σ As M H _ s λv H1 aM M1 s1 cO r=>?_⟩
 have r':Rep z.K M1 H1 (.fix l) v:=r
 cases r' with
 |@fix _ a xs ha rr=>
  refine⟨a,rfl,⟨xs,hK▸ha.sq⟩,kk _ H1 aM M1 s1 cO λM2 H2 aU=>?_⟩
  have ha2:oH z.K M2 H2 a xs:=by
   rcases ha with ⟨na,o,hr⟩ |hk
   .
    exact .inl ⟨(aU _ _ hr na).2,o,(aU _ _ hr na).1⟩
   .
    exact .inr hk
  have N4:=rr.stay aU
  refine⟨λn d hd=>?_,xs,hK▸ha2.sq,by rw[rr.length];exact aal _⟩
  obtain⟨x,e1,e2⟩:=N4.get hd
  refine⟨⟨xs,x,hK▸ha2.sq,e1⟩,λy H' hy z' g' σ' aB _ s'=>?_⟩
  obtain⟨rfl,hy⟩:=hy
  have:=hy xs (hK▸ha2.sq)
  rw[e1]at this
  cases this
  exact⟨s',au.refl _ _,e2⟩
theorem Fg{lo:Int}{n:Nat}{K:Frag}{M:List Addr}{H:Hp}:Jt (Pq lo n) (cS lo n) K M H:=λM2 H2 _=>by
 refine⟨λk d hd=>?_,?_⟩
 .
  have hk:k<n:=by have:=(aai.mp hd).1;rw[uT]at this;exact this
  rw[Fb hk]at hd
  cases hd
  refine⟨hk,λx H' hx z' g' σ' aB _ s'=>?_⟩
  obtain⟨rfl,rfl⟩:=hx
  exact⟨s',au.refl _ _,.int _⟩
 .
  show n<=(cS lo n).length
  rw[uT]
  exact aal _
theorem Kd(h:cG X z [a] g [.dat (.int j)] g1)(hg:Gl X "range")(hm:X.mg "range" = none)(hs:starEach [a] X.env=[(false,eval a X.env)])(h1 : -(2 ^ 62)<=j)(h2:j<2 ^ 62) :
  iE X z tg (.Call (.Name "range" p) [a] [] rp) g (cS 0 j.toNat) g1:=by
 obtain⟨wi,q,k⟩:=Az (p:=p) (rp:=rp) h hg hm hs h1 h2 (tg:=tg)
 exact⟨wi,q,λσ As M H R s kk=>k σ As M H _ s λH' aB M' s' st=>kk _ H' aB M' s' st Fg⟩
theorem Ke(h:cG X z [a,b] g [.dat (.int c),.dat (.int j)] g1)(hg:Gl X "range")(hm:X.mg "range" = none)(hs:starEach [a,b] X.env=[(false,eval a X.env),(false,eval b X.env)])(hs2:starEach [b] X.env=[(false,eval b X.env)])
  (h1 : -(2 ^ 62)<=c/\c<2 ^ 62/\-(2 ^ 62)<=j/\j<2 ^ 62):iE X z tg (.Call (.Name "range" p) [a,b] [] rp) g (cS c (j - c).toNat) g1:=by
 obtain⟨wi,q,k⟩:=Ba (p:=p) (rp:=rp) h hg hm hs hs2 h1 (tg:=tg)
 exact⟨wi,q,λσ As M H R s kk=>k σ As M H _ s λH' aB M' s' st=>kk _ H' aB M' s' st Fg⟩
inductive eK(X:Cx)(z:Z)(body:List Stmt)(T:Tg):List D->G->Fl->G->Prop
 |nil {g:G}:eK X z body T [] g .nx g
 |next {d:D}{l:List D}{g g0 g1 g2:G}{f:Fl}:T.set d g=some g0->dW X z body g0 .nx g1->eK X z body T l g1 f g2->eK X z body T (d::l) g f g2
 |cont {d:D}{l:List D}{g g0 g1 g2:G}{f:Fl}:T.set d g=some g0->dW X z body g0 .ct g1->eK X z body T l g1 f g2->eK X z body T (d::l) g f g2
 |brk {d:D}{l:List D}{g g0 g1:G}:T.set d g=some g0->dW X z body g0 .bk g1->eK X z body T (d::l) g .nx g1
 |ret {d:D}{l:List D}{g g0 g1:G}{r:R}:T.set d g=some g0->dW X z body g0 (.rt r) g1->eK X z body T (d::l) g (.rt r) g1
variable{g':G}{body:List Stmt}{f:Fl}{T:Tg}{items:List D}
theorem Q8(hp:PassesOwn (model X.prog X.w) X.A X.env X.xe)(hc:X.calm=true)(hw:iE X z tg iter g items g1)(ht:uU X z tg T)(hb:eK X z body T items g1 f g')(hs:∀y,foldedSetIterable iter X.env y=pure y) :
  fU X z (.For tg iter body [] pos) g f g':=by
 obtain⟨wi,q,k⟩:=hw
 obtain⟨t,qt,kt⟩:=ht
 refine⟨_,Pw hp hc q qt zj hs,λσ As M H E s kk=>k σ As M H _ s λJ H1 aM M1 s1 cO hJ=>?_⟩
 refine⟨λi m σ2 H2=>i+m=items.length/\∃g2 bw M2,S z g2 σ2 bw M2 H2/\au M1 H1 M2 H2/\eK X z body T (items.drop i) g2 f g',⟨items.length,by lia,g1,aM,M1,s1,au.refl _ _,by simpa using hb⟩,?_⟩
 rintro i m σ2 H2 ⟨him,g2,bw,M2,s2,aU,lo⟩
 obtain⟨hgo,hstop⟩:=hJ M2 H2 aU
 cases e:items[i]? with
 |none=>
  have hi:i=items.length:=by
   have:=abF.mp e
   lia
  subst hi
  rw[List.drop_length]at lo
  refine .inl ⟨hstop,?_⟩
  cases lo
  exact kk σ2 bw M2 H2 s2 (cO.trans aU)
 |some d=>
  obtain⟨go,yl⟩:=hgo i d e
  rw[drop_cons e]at lo
  have hi:i<items.length:=(aai.mp e).1
  refine .inr ⟨go,λσ' H'=>∃g3 jU M3,S z g3 σ' jU M3 H'/\au M1 H1 M3 H'/\eK X z body T (items.drop (i+1)) g3 f g',λσ' H' ⟨g3,jU,M3,w1,w2,w3⟩=>⟨m - 1,by lia,by lia,g3,jU,M3,w1,w2,w3⟩,λx H' hx=>?_⟩
  obtain⟨s3,gF,rx⟩:=yl x H' hx z g2 σ2 bw rfl s2
  have kk':=(kk.trans cO).trans (aU.trans gF)
  have Wy:=aU.trans gF
  cases lo with
  |next e0 b h=>
   refine kt d g2 _ e0 x σ2 bw M2 H' _ s3 rx λσ' aB s' _=>?_
   obtain⟨t,q,kb⟩:=b
   exact⟨t,q,kb _ aB M2 H' _ s' λσ4 nq M4 H4 s4 rB=>⟨_,nq,M4,s4,Wy.trans rB,h⟩⟩
  |cont e0 b h=>
   refine kt d g2 _ e0 x σ2 bw M2 H' _ s3 rx λσ' aB s' _=>?_
   obtain⟨t,q,kb⟩:=b
   exact⟨t,q,kb _ aB M2 H' _ s' λσ4 nq M4 H4 s4 rB=>⟨_,nq,M4,s4,Wy.trans rB,h⟩⟩
  |brk e0 b=>
   refine kt d g2 _ e0 x σ2 bw M2 H' _ s3 rx λσ' aB s' _=>?_
   obtain⟨t,q,kb⟩:=b
   exact⟨t,q,kb _ aB M2 H' _ s' λσ4 nq M4 H4 s4 rB=>kk' σ4 nq M4 H4 s4 rB⟩
  |ret e0 b=>
   refine kt d g2 _ e0 x σ2 bw M2 H' _ s3 rx λσ' aB s' _=>?_
   obtain⟨t,q,kb⟩:=b
   exact⟨t,q,kb _ aB M2 H' _ s' λv σ4 nq M4 H4 s4 rB R=>kk' v σ4 nq M4 H4 s4 rB R⟩
end
noncomputable def gC(k:Nat)(g:G):G:=g++(List.replicate k .no++[.own []])
def jm(X:Cx)(z:Z)(ifs:List Expr)(g:G)(b:Bool)(g':G):Prop:=
 ∃t,uM X ifs t/\∀σ As M H (Q:Bool->Hp->Prop),S z g σ As M H->(∀H' aB M',S z g' σ aB M' H'->au M H M' H'->Q b H')->t σ H Q
theorem Kf:jm X z [] g true g:=⟨_,uN,λσ As M H Q s k=>k H As M s (au.refl _ _)⟩
theorem Kg(h:cz X z c g b g'):jm X z [c] g b g':=let ⟨t,q,k⟩:=h;⟨t,Ei q,k⟩
inductive nu(T:Tg)(last:Nat)(Q9:G->Bool->G->Prop)(UW:G->D->G->Prop):List D->G->G->Prop
 |nil {g:G}:nu T last Q9 UW [] g g
 |skip:T.set d g=some g1->Q9 g1 false g2->nu T last Q9 UW l g2 g'->nu T last Q9 UW (d::l) g g'
 |take:T.set d g=some g1->Q9 g1 true g2->UW g2 e g3->g3[last]?=some (.own acc)->acc.length<16777216->nu T last Q9 UW l (g3.set last (.own (acc++[e]))) g'->nu T last Q9 UW (d::l) g g'
section
variable{z:Z}{g:G}{σ:Sg}{As M:List Addr}{H:Hp}
theorem S.extend(s:S z g σ As M H)(hm:a∈M)(hA:a∉As)(h0:z.H0 a=none)(h:H a=some (.lst xs))(r:aI z.K M H l xs) :
  S z (g++(List.replicate k .no++[.own l])) (σ++(List.replicate k none++[some (.ref a)])) (As++([]++[a])) M H:=by
 have hl:=s.sl.length
 refine⟨s.sl.append ((Slots.YD k).append (.own h r .nil)),?_,λb hb=>?_,λi b l' e1 e2=>?_,s.live,s.keep,s.iX,s.m0,s.bm,λp hp=>?_,s.tab,s.tm,s.tt⟩
 .
  rw[abT]
  refine List.nodup_append.mpr ⟨s.nd,aay.mpr ⟨by simp,abg⟩,λx hx y hy e=>?_⟩
  rw[aaC.mp hy]at e
  exact hA (e▸hx)
 .
  rcases abH.mp hb with q |q
  .
   exact s.sub b q
  .
   rw[abT]at q
   rw[aaC.mp q]
   exact hm
 .
  rcases abA i g.length with hi |hi
  .
   rw[aat hi]at e1
   rw[aat (by lia)]at e2
   exact s.own i b l' e1 e2
  .
   rw[aam hi]at e1
   rw[aam (by lia)]at e2
   rcases abA (i - g.length) k with hk |hk
   .
    rw[aat (by rw[aaB];exact hk)]at e1
    have:=aaP e1
    rw[abB]at this
    exact absurd this.2 (by simp)
   .
    rw[aam (by rw[aaB];lia),aaB]at e2
    have e3:i - σ.length - k=0:=by
     rcases Nat.eq_zero_or_pos (i - σ.length - k)with q |q
     .
      exact q
     .
      rw[abU (Nat.succ_le_of_lt q)]at e2;cases e2
    rw[e3]at e2
    have e4:some (some (V.ref a))=some (some (V.ref b)):=e2
    injection e4 with e4;injection e4 with e4;injection e4 with e4
    exact .inr (e4▸h0)
 .
  obtain⟨q1,l',q2⟩:=s.jT p hp
  exact⟨by rw[aat (aai.mp q1).1];exact q1,l',by rw[aat (aai.mp q2).1];exact q2⟩
theorem Slots.split{K:Frag}{g1 g2:G}{σ:Sg}{As:List Addr}(q:Slots K M H (g1++g2) σ As):∃σ1 σ2 A1 A2,σ=σ1++σ2/\As=A1++A2/\Slots K M H g1 σ1 A1/\Slots K M H g2 σ2 A2:=by
 induction g1 generalizing σ As with
 |nil=>exact⟨[],_,[],_,rfl,rfl,.nil,q⟩
 |cons o g1 ih=>cases q with
  |no q=>obtain⟨s1,s2,a1,a2,rfl,rfl,h1,h2⟩:=ih q;exact⟨_::s1,s2,a1,a2,rfl,rfl,.no h1,h2⟩
  |dat r q=>obtain⟨s1,s2,a1,a2,rfl,rfl,h1,h2⟩:=ih q;exact⟨_::s1,s2,a1,a2,rfl,rfl,.dat r h1,h2⟩
  |own e r q=>obtain⟨s1,s2,a1,a2,rfl,rfl,h1,h2⟩:=ih q;exact⟨_::s1,s2,_::a1,a2,rfl,rfl,.own e r h1,h2⟩
theorem S.shrink{gb:G}{τ:Sg}{l:List D}{i:Nat}{a:Addr}(s:S z gb (σ++τ) As M H)(hz:∀p∈z.lent,p.1<σ.length)(hi:σ.length<=i)(e1:gb[i]?=some (.own l))(e2:(σ++τ)[i]?=some (some (.ref a))) :
  ∃A1,S z (gb.take σ.length) σ A1 M H/\a∈M/\a∉A1:=by
 have hl:=s.sl.length
 rw[aaw]at hl
 have q:=s.sl
 rw[<- acu σ.length gb]at q
 obtain⟨σ1,σ2,A1,A2,h1,h2,h3,h4⟩:=q.split
 have l1:=h3.length
 rw[abn,Nat.min_eq_left (by lia)]at l1
 obtain⟨rfl,rfl⟩:=List.append_inj h1 l1
 subst h2
 have hA2:a∈A2:=by
  obtain⟨b,xs,f1,f2,_⟩:=h4.at (i:=i - σ.length) (l:=l) (by rw[List.getElem?_drop,Nat.add_sub_cancel' hi];exact e1)
  rw[aam hi]at e2
  rw[e2]at f1
  injection f1 with f1;injection f1 with f1;injection f1 with f1
  exact f1▸f2
 have tk:∀(j:Nat) (o:Slot),(gb.take σ.length)[j]?=some o->gb[j]?=some o/\j<σ.length:=λj o e=>by
  have hj:=(aai.mp e).1
  rw[abn]at hj
  have hj':j<σ.length:=aan hj (Nat.min_le_left _ _)
  rw[abl hj']at e
  exact⟨e,hj'⟩
 refine⟨A1,⟨h3,(List.nodup_append.mp s.nd).1,λb hb=>s.sub b (abZ _ hb),λj b l' c1 c2=>?_,s.live,s.keep,s.iX,s.m0,s.bm,λp hp=>?_,s.tab,s.tm,s.tt⟩,s.sub a (aaM _ hA2),λhA=>(List.nodup_append.mp s.nd).2.2 a hA a hA2 rfl⟩
 .
  obtain⟨c3,c4⟩:=tk j _ c1
  exact s.own j b l' c3 (by rw[aat c4];exact c2)
 .
  obtain⟨c1,l',c2⟩:=s.jT p hp
  have Dp:=hz p hp
  rw[aat Dp]at c1
  exact⟨c1,l',by rw[abl Dp];exact c2⟩
theorem oV(h:zq is (σ++τ) σ')(hi:∀i∈is,σ.length<=i):∃τ',σ'=σ++τ':=by
 refine⟨σ'.drop σ.length,?_⟩
 have e:σ'.take σ.length=σ:=by
  apply List.ext_getElem?
  intro j
  rcases abA j σ.length with hj |hj
  .
   rw[abl hj,h.2 j (λz=>Nat.not_lt.mpr (hi j z) hj),aat hj]
  .
   rw[abU (by rw[abn];exact aaI (Nat.min_le_left _ _) hj),abU hj]
 have:=(acu σ.length σ').symm
 rw[e]at this
 exact this
end
section
variable{X:Cx}{z:Z}{tg iter dI:Expr}{ifs:List Expr}{scope:Scope}{pos:Pos}{N':List Str}{k:Nat}{T:Tg}{items acc:List D}{g g1 gE:G}
noncomputable def Wz(X:Cx)(tg:Expr):TG:=λv σ H Q=>∃t,PG X tg t/\t v σ H Q
theorem Fj:PG X tg (Wz X tg):=λah s σ H v u Q I r h=>let ⟨t,q,k⟩:=h;q ah s σ H v u Q I r k
noncomputable def WD(X:Cx)(ifs:List Expr):TT:=λσ H Q=>∃t,uM X ifs t/\t σ H Q
theorem Fo:uM X ifs (WD X ifs):=λah s σ H Q I h=>let ⟨t,q,k⟩:=h;q ah s σ H Q I k
noncomputable def Kh(X:Cx)(e:Expr):TE:=λσ H Q=>∃t,PE X e t/\t σ H Q
theorem xD:PE X e (Kh X e):=λah s σ H Q I h=>let ⟨t,q,k⟩:=h;q ah s σ H Q I k
theorem oW(hw:iE X z tg iter g items g1)(ht:∀b:Bk,uU (X.blk N' scope b) z tg T)(hT:∀i∈T.ix,g1.length<=i/\i<g1.length+k)
  (hcp:nu T (g1.length+k) (λg b g'=>∀bk:Bk,jm (X.blk N' scope bk) z ifs g b g') (λg d g'=>∀bk:Bk,aA (X.blk N' scope bk) z dI g (.dat d) g') items (gC k g1) gE) (hacc:gE[g1.length+k]?=some (.own acc)) :
  ∃wi,PI X tg iter wi/\∀σ As M H Q,S z g σ As M H->Kn z (gE.take g1.length) σ M H (.new acc) Q->za X k wi (λb=>Wz (X.blk N' scope b) tg) (λb=>WD (X.blk N' scope b) ifs) (λD b=>JG D (Kh (X.blk N' scope b) dI)) σ H Q:=by
 obtain⟨wi,q,kw⟩:=hw
 refine⟨wi,q,λσ As M H Q s kq=>kw σ As M H _ s λJ H1 aM M1 s1 cO hJ D hD=>?_⟩
 have hl:g1.length=σ.length:=s1.sl.length
 have hz:∀p∈z.lent,p.1<σ.length:=λp hp=>(aai.mp (s1.jT p hp).1).1
 have WK:∀i∈T.ix,σ.length<=i:=λi hi=>by rw[<- hl];exact (hT i hi).1
 have iF:g1.length+k∉T.ix:=λh=>aa7 _ (hT _ h).2
 have s1':=s1.aZ (xs:=[]) hD
 have h0:z.H0 D=none:=s1.cQ hD
 have nA:D∉aM:=λh=>s1.fresh hD (s1.sub D h)
 have sb:=s1'.extend (k:=k) (l:=[]) aah nA h0 aE .nil
 have rC:(σ++(List.replicate k none++[some (V.ref D)]))[g1.length+k]?=some (some (V.ref D)):=by
  rw[hl,aam (aby _ _),aaL,aam (by rw[aaB];exact aal _),aaB,acv]
  rfl
 refine⟨λi m σ' H'=>i+m=items.length/\∃gb Ab Mb τ,S z gb σ' Ab Mb H'/\au M1 H1 Mb H'/\σ'=σ++τ/\σ'[g1.length+k]?=some (some (.ref D))/\nu T (g1.length+k) (λg b g'=>∀bk:Bk,jm (X.blk N' scope bk) z ifs g b g') (λg d g'=>∀bk:Bk,aA (X.blk N' scope bk) z dI g (.dat d) g') (items.drop i) gb gE,
  ⟨items.length,by lia,_,_,_,_,sb,au.aZ hD,rfl,rC,hcp⟩,?_⟩
 rintro i m σ' H' ⟨him,gb,Ab,Mb,τ,s2,aU,rfl,YF,cp⟩
 obtain⟨hgo,hstop⟩:=hJ Mb H' aU
 cases e:items[i]? with
 |none=>
  have hi:i=items.length:=by
   have:=abF.mp e
   lia
  subst hi
  rw[List.drop_length]at cp
  cases cp
  refine .inl ⟨hstop,?_⟩
  obtain⟨a,xs,f1,f2,f3,f4⟩:=s2.sl.at hacc
  rw[YF]at f1
  injection f1 with f1;injection f1 with f1;injection f1 with f1
  subst f1
  obtain⟨A1,s3,m3,n3⟩:=s2.shrink hz (by lia) hacc YF
  rw[<- hl]at s3
  exact kq _ H' A1 Mb s3 (cO.trans aU) ⟨D,xs,rfl,m3,n3,h0,f3,f4⟩
 |some d=>
  obtain⟨go,yl⟩:=hgo i d e
  rw[drop_cons e]at cp
  have hi:i<items.length:=(aai.mp e).1
  refine .inr ⟨go,λσ' H'=>∃gb Ab Mb τ,S z gb σ' Ab Mb H'/\au M1 H1 Mb H'/\σ'=σ++τ/\σ'[g1.length+k]?=some (some (.ref D))/\nu T (g1.length+k) (λg b g'=>∀bk:Bk,jm (X.blk N' scope bk) z ifs g b g') (λg d g'=>∀bk:Bk,aA (X.blk N' scope bk) z dI g (.dat d) g') (items.drop (i+1)) gb gE,
   λYB YC hN=>⟨m - 1,by lia,by lia,hN⟩,λx H2 hx bk _=>?_⟩
  obtain⟨s3,gF,rx⟩:=yl x H2 hx z gb (σ++τ) Ab rfl s2
  obtain⟨t,qt,kt⟩:=ht bk
  cases cp with
  |skip e0 hc rest=>
   refine⟨t,qt,kt d gb _ e0 x _ Ab Mb H2 _ s3 rx λσ4 nq s4 ag=>?_⟩
   obtain⟨τ',rfl⟩:=oV ag WK
   obtain⟨t2,q2,k2⟩:=hc bk
   refine⟨t2,q2,k2 _ nq Mb H2 _ s4 λH5 Ra M5 s5 uI=>?_⟩
   refine qA ⟨_,Ra,M5,τ',s5,(aU.trans gF).trans uI,rfl,?_,rest⟩
   rw[ag.2 _ iF];exact YF
  |take e0 hc he ha hz' rest=>
   refine⟨t,qt,kt d gb _ e0 x _ Ab Mb H2 _ s3 rx λσ4 nq s4 ag=>?_⟩
   obtain⟨τ',rfl⟩:=oV ag WK
   obtain⟨t2,q2,k2⟩:=hc bk
   obtain⟨t3,q3,k3⟩:=he bk
   have hD4:(σ++τ')[g1.length+k]?=some (some (V.ref D)):=by rw[ag.2 _ iF];exact YF
   refine⟨t2,q2,k2 _ nq Mb H2 _ s4 λH5 Ra M5 s5 uI=>lg ⟨t3,q3,k3 _ Ra M5 H5 _ s5 λv H6 As6 M6 s6 st6 R6=>?_⟩⟩
   obtain⟨a,xs,f1,f2,f3,f4⟩:=s6.sl.at ha
   rw[hD4]at f1
   injection f1 with f1;injection f1 with f1;injection f1 with f1
   subst f1
   obtain⟨s7,st7⟩:=s6.write ha hD4 (f4.append (.cons R6 .nil))
   refine⟨xs,f3,by rw[<- f4.length,aaY];exact hz',_,As6,M6,τ',s7,(((aU.trans gF).trans uI).trans st6).trans st7,rfl,hD4,rest⟩
theorem Kl(B:aX X.env.scope scope)(hc:X.calm=true)(hN:Names X.N N' scope k)(hw:iE X z tg iter g items g1)(ht:∀b:Bk,uU (X.blk N' scope b) z tg T)(hT:∀i∈T.ix,g1.length<=i/\i<g1.length+k)
  (hcp:nu T (g1.length+k) (λg b g'=>∀bk:Bk,jm (X.blk N' scope bk) z ifs g b g') (λg d g'=>∀bk:Bk,aA (X.blk N' scope bk) z dI g (.dat d) g') items (gC k g1) gE) (hacc:gE[g1.length+k]?=some (.own acc))
  (hs:∀x,foldedSetIterable iter X.env x=pure x):aA X z (.ListComp dI [⟨tg,iter,ifs,0⟩] scope pos) g (.new acc) (gE.take g1.length):=by
 obtain⟨wi,q,kk⟩:=oW hw ht hT hcp hacc
 exact⟨_,zc B hc hN q (λb=>⟨Fj,Fo,xD⟩) hs,kk⟩
theorem Km(B:aX X.env.scope scope)(hc:X.calm=true)(hN:Names X.N N' scope k)(hw:iE X z tg iter g items g1)(ht:∀b:Bk,uU (X.blk N' scope b) z tg T)(hT:∀i∈T.ix,g1.length<=i/\i<g1.length+k)
  (hcp:nu T (g1.length+k) (λg b g'=>∀bk:Bk,jm (X.blk N' scope bk) z ifs g b g') (λg d g'=>∀bk:Bk,aA (X.blk N' scope bk) z dI g (.dat d) g') items (gC k g1) gE) (hacc:gE[g1.length+k]?=some (.own acc))
  (Wj:X.N.Nodup) (hy:X.N[i]?=some y) (hl:X.env.scope.names.lookup y=some .local) (hb:i∉z.bor) (hi:i<(gE.take g1.length).length)
  (hsw:swapsWith (.ListComp dI [⟨tg,iter,ifs,0⟩] scope pos) (some (.Name y py)) bM.line X.env=pure true)
  (hs:∀x,foldedSetIterable iter X.env x=pure x):fU X z (.Assign [.Name y py] (.ListComp dI [⟨tg,iter,ifs,0⟩] scope pos) bM) g .nx ((gE.take g1.length).set i (.own acc)):=by
 obtain⟨wi,q,kk⟩:=oW hw ht hT hcp hacc
 refine⟨_,JN B hc hN q (λb=>⟨Fj,Fo,xD⟩) Wj hy hl hsw hs,λσ As M H E s kE=>kk σ As M H _ s λv H' aB M' s' st R=>?_⟩
 obtain⟨a,xs,rfl,hm,hA,h0,ha,rr⟩:=R
 obtain⟨bw,s2⟩:=s'.sS hb hi hm hA h0 ha rr
 exact kE _ bw M' H' s2 st
end
section
variable{X:Cx}{z:Z}{pos:Pos}
theorem aA.run(he:aA X z e g r g1)(I:L2.Inv X ah σ H s)(st:S z g σ As M H)
  (k:∀v u s1 H1 aM M1,L2.Inv X ah σ H1 s1->RelV v u->S z g1 σ aM M1 H1->au M H M1 H1->cL z g1 σ aM M1 H1 r v->Post u s1):wpAny (model X.prog X.w) X.A (eval e X.env) Post X.xe s:=by
 obtain⟨t,q,kt⟩:=he
 exact bN (q ah s σ H (λv H1=>∃aM M1,S z g1 σ aM M1 H1/\au M H M1 H1/\cL z g1 σ aM M1 H1 r v) I (kt σ As M H _ st λv H1 aM M1 s1 cO R=>⟨aM,M1,s1,cO,R⟩)) λu s1 ⟨v,H1,I1,r1,aM,M1,q1,q2,q3⟩=>k v u s1 H1 aM M1 I1 r1 q1 q2 q3
theorem nJ.run(ho:nJ X z f d1 d2 r)(I:L2.Inv X ah σ H s)(st:S z g σ As M H)(p1:Pk z.K M H d1 v1)(p2:Pk z.K M H d2 v2)(r1:RelV v1 u1)(r2:RelV v2 u2)
  (k:∀v u s1 H1 aM M1,L2.Inv X ah σ H1 s1->RelV v u->S z g σ aM M1 H1->au M H M1 H1->cL z g σ aM M1 H1 r v->Post u s1):wpAny (model X.prog X.w) X.A (f u1 u2) Post X.xe s:=by
 obtain⟨rr,o,ko⟩:=ho
 exact bN (o ah s σ H v1 v2 u1 u2 (λv H1=>∃aM M1,S z g σ aM M1 H1/\au M H M1 H1/\cL z g σ aM M1 H1 r v) I r1 r2 (ko g σ As M H v1 v2 _ st p1 p2 λv H1 aM M1 s1 cO R=>⟨aM,M1,s1,cO,R⟩)) λu s1 ⟨v,H1,I1,r1,aM,M1,q1,q2,q3⟩=>k v u s1 H1 aM M1 I1 r1 q1 q2 q3
theorem aA.of (h:∀(ah:List (Addr×Obj)) (s:Shared) (σ:Sg) (As M:List Addr) (H:Hp) (Post:Value->Shared->Prop),L2.Inv X ah σ H s->S z g σ As M H->
  (∀v u s1 H1 aM M1,L2.Inv X ah σ H1 s1->RelV v u->S z g1 σ aM M1 H1->au M H M1 H1->cL z g1 σ aM M1 H1 r v->Post u s1)->wpAny (model X.prog X.w) X.A (eval e X.env) Post X.xe s):aA X z e g r g1:=
 ⟨λσ H Q=>∃As M,S z g σ As M H/\Kn z g1 σ M H r Q,λah s σ H Q I ⟨As,M,st,k⟩=>h ah s σ As M H _ I st λv u s1 H1 aM M1 I1 r1 q1 q2 q3=>⟨v,H1,I1,r1,k v H1 aM M1 q1 q2 q3⟩,λσ As M H Q s k=>⟨As,M,s,k⟩⟩
theorem cz.of (h:∀(ah:List (Addr×Obj)) (s:Shared) (σ:Sg) (As M:List Addr) (H:Hp) (Post:Bool->Shared->Prop),L2.Inv X ah σ H s->S z g σ As M H->
  (∀s1 H1 aM M1,L2.Inv X ah σ H1 s1->S z g1 σ aM M1 H1->au M H M1 H1->Post b s1)->wpAny (model X.prog X.w) X.A (isTrue e X.env (eval e X.env)) Post X.xe s):cz X z e g b g1:=
 ⟨λσ H Q=>∃As M,S z g σ As M H/\(∀H' aB M',S z g1 σ aB M' H'->au M H M' H'->Q b H'),λah s σ H Q I ⟨As,M,st,k⟩=>h ah s σ As M H _ I st λs1 H1 aM M1 I1 q1 q2=>⟨H1,I1,k H1 aM M1 q1 q2⟩,λσ As M H Q s k=>⟨As,M,s,k⟩⟩
inductive sZ(X:Cx)(z:Z):D->List CmpOp->List Expr->G->Bool->G->Prop
 |last {d1 d2:D}{op:CmpOp}{b:Expr}{g g1:G}{c:Bool}:aA X z b g (.dat d2) g1->nJ X z (compareOp op) d1 d2 (.dat (.bl c))->sZ X z d1 [op] [b] g c g1
 |stop {d1 d2:D}{op op':CmpOp}{ops:List CmpOp}{b b':Expr}{bs:List Expr}{g g1:G}:aA X z b g (.dat d2) g1->nJ X z (compareOp op) d1 d2 (.dat (.bl false))->sZ X z d1 (op::op'::ops) (b::b'::bs) g false g1
 |link {d1 d2:D}{op op':CmpOp}{ops:List CmpOp}{b b':Expr}{bs:List Expr}{g g1 g2:G}{c:Bool}:aA X z b g (.dat d2) g1->nJ X z (compareOp op) d1 d2 (.dat (.bl true))->sZ X z d2 (op'::ops) (b'::bs) g1 c g2->sZ X z d1 (op::op'::ops) (b::b'::bs) g c g2
theorem Rb(h:sZ X z d1 ops bs g c g'):∀(ah:List (Addr×Obj)) (s:Shared) (σ:Sg) (H:Hp) (As M:List Addr) (Post:Value->Shared->Prop) (v1:V) (u1:Value),L2.Inv X ah σ H s->S z g σ As M H->Rep z.K M H d1 v1->RelV v1 u1->
  (∀s1 H' aB M',L2.Inv X ah σ H' s1->S z g' σ aB M' H'->au M H M' H'->Post (.bool c) s1)->wpAny (model X.prog X.w) X.A (compareChain pos u1 ops (evalEach bs X.env)) Post X.xe s:=by
 induction h with
 |@last d1 d2 op b g g1 c he ho=>
  intro ah s σ H As M Post v1 u1 I st r rv k
  show wpAny _ X.A (compareChain pos u1 [op] [eval b X.env]) _ _ s
  refine chain_last (he.run I st λv u s1 H1 aM M1 I1 r1 q1 q2 q3=>ho.run I1 q1 (.of (r.stay q2)) (.of q3) rv r1 λv' u' s2 H2 bw M2 I2 r2 p1 p2 p3=>?_)
  rw[fG p3]at r2
  cases r2
  exact k s2 H2 bw M2 I2 p1 (q2.trans p2)
 |@stop d1 d2 op op' ops b b' bs g g1 he ho=>
  intro ah s σ H As M Post v1 u1 I st r rv k
  show wpAny _ X.A (compareChain pos u1 (op::op'::ops) (eval b X.env::eval b' X.env::evalEach bs X.env)) _ _ s
  refine chain_link (he.run I st λv u s1 H1 aM M1 I1 r1 q1 q2 q3=>ho.run I1 q1 (.of (r.stay q2)) (.of q3) rv r1 λv' u' s2 H2 bw M2 I2 r2 p1 p2 p3=>?_)
  rw[fG p3]at r2
  cases r2
  exact aaT (ite_ff (k s2 H2 bw M2 I2 p1 (q2.trans p2)))
 |@link d1 d2 op op' ops b b' bs g g1 g2 c he ho hch ih=>
  intro ah s σ H As M Post v1 u1 I st r rv k
  show wpAny _ X.A (compareChain pos u1 (op::op'::ops) (eval b X.env::eval b' X.env::evalEach bs X.env)) _ _ s
  refine chain_link (he.run I st λv u s1 H1 aM M1 I1 r1 q1 q2 q3=>ho.run I1 q1 (.of (r.stay q2)) (.of q3) rv r1 λv' u' s2 H2 bw M2 I2 r2 p1 p2 p3=>?_)
  rw[fG p3]at r2
  cases r2
  exact aaT (ite_tt (ih ah s2 σ H2 bw M2 Post v u I2 p1 (Rep.stay p2 q3) r1 λs3 H3 jU M3 I3 w1 w2=>k s3 H3 jU M3 I3 w1 ((q2.trans p2).trans w2)))
theorem Ko(h:sZ X z d1 ops bs g c g'):∀(ah:List (Addr×Obj)) (s:Shared) (σ:Sg) (H:Hp) (As M:List Addr) (Post:Bool->Shared->Prop) (v1:V) (u1:Value),L2.Inv X ah σ H s->S z g σ As M H->Rep z.K M H d1 v1->RelV v1 u1->
  (∀s1 H' aB M',L2.Inv X ah σ H' s1->S z g' σ aB M' H'->au M H M' H'->Post c s1)->wpAny (model X.prog X.w) X.A (testChain pos u1 ops (evalEach bs X.env)) Post X.xe s:=by
 induction h with
 |@last d1 d2 op b g g1 c he ho=>
  intro ah s σ H As M Post v1 u1 I st r rv k
  show wpAny _ X.A (testChain pos u1 [op] [eval b X.env]) _ _ s
  refine test_last (he.run I st λv u s1 H1 aM M1 I1 r1 q1 q2 q3=>ho.run I1 q1 (.of (r.stay q2)) (.of q3) rv r1 λv' u' s2 H2 bw M2 I2 r2 p1 p2 p3=>?_)
  rw[fG p3]at r2
  cases r2
  exact aaT (k s2 H2 bw M2 I2 p1 (q2.trans p2))
 |@stop d1 d2 op op' ops b b' bs g g1 he ho=>
  intro ah s σ H As M Post v1 u1 I st r rv k
  show wpAny _ X.A (testChain pos u1 (op::op'::ops) (eval b X.env::eval b' X.env::evalEach bs X.env)) _ _ s
  refine test_link (he.run I st λv u s1 H1 aM M1 I1 r1 q1 q2 q3=>ho.run I1 q1 (.of (r.stay q2)) (.of q3) rv r1 λv' u' s2 H2 bw M2 I2 r2 p1 p2 p3=>?_)
  rw[fG p3]at r2
  cases r2
  exact aaT (ite_ff (k s2 H2 bw M2 I2 p1 (q2.trans p2)))
 |@link d1 d2 op op' ops b b' bs g g1 g2 c he ho hch ih=>
  intro ah s σ H As M Post v1 u1 I st r rv k
  show wpAny _ X.A (testChain pos u1 (op::op'::ops) (eval b X.env::eval b' X.env::evalEach bs X.env)) _ _ s
  refine test_link (he.run I st λv u s1 H1 aM M1 I1 r1 q1 q2 q3=>ho.run I1 q1 (.of (r.stay q2)) (.of q3) rv r1 λv' u' s2 H2 bw M2 I2 r2 p1 p2 p3=>?_)
  rw[fG p3]at r2
  cases r2
  exact aaT (ite_tt (ih ah s2 σ H2 bw M2 Post v u I2 p1 (Rep.stay p2 q3) r1 λs3 H3 jU M3 I3 w1 w2=>k s3 H3 jU M3 I3 w1 ((q2.trans p2).trans w2)))
variable{a:Expr}{d1:D}{Fp Fq:CmpOp}{ops:List CmpOp}{b1 b2:Expr}{bs:List Expr}{g g1 g2:G}{c:Bool}
theorem Ft(ha:aA X z a g (.dat d1) g1)(h:sZ X z d1 (Fp::Fq::ops) (b1::b2::bs) g1 c g2)(hm:lastMarks (Fp::Fq::ops) (b1::b2::bs)=false):aA X z (.Compare a (Fp::Fq::ops) (b1::b2::bs) pos) g (.dat (.bl c)) g2:=
 aA.of λah s σ As M H Post I st k=>Compare_chain (ha.run I st λv u s1 H1 aM M1 I1 r1 q1 q2 q3=>Rb h ah s1 σ H1 aM M1 Post v u I1 q1 q3 r1 λs2 H2 bw M2 I2 p1 p2=>k (.bl c) (.bool c) s2 H2 bw M2 I2 rfl p1 (q2.trans p2) (.bl c)) hm
theorem Fv(ha:aA X z a g (.dat d1) g1)(h:sZ X z d1 (Fp::Fq::ops) (b1::b2::bs) g1 c g2)(hm:lastMarks (Fp::Fq::ops) (b1::b2::bs)=false):cz X z (.Compare a (Fp::Fq::ops) (b1::b2::bs) pos) g c g2:=
 cz.of λah s σ As M H Post I st k=>isTrue_chain (ha.run I st λv u s1 H1 aM M1 I1 r1 q1 q2 q3=>Ko h ah s1 σ H1 aM M1 Post v u I1 q1 q3 r1 λs2 H2 bw M2 I2 p1 p2=>k s2 H2 bw M2 I2 p1 (q2.trans p2)) hm
inductive nB(X:Cx)(z:Z)(c:Expr)(body:List Stmt):Nat->G->Fl->G->Prop
 |done {n:Nat}{g g1:G}:cz X z c g false g1->nB X z c body n g .nx g1
 |next {n:Nat}{g g1 g2 g3:G}{f:Fl}:cz X z c g true g1->dW X z body g1 .nx g2->nB X z c body n g2 f g3->nB X z c body (n+1) g f g3
 |cont {n:Nat}{g g1 g2 g3:G}{f:Fl}:cz X z c g true g1->dW X z body g1 .ct g2->nB X z c body n g2 f g3->nB X z c body (n+1) g f g3
 |brk {n:Nat}{g g1 g2:G}:cz X z c g true g1->dW X z body g1 .bk g2->nB X z c body n g .nx g2
 |ret {n:Nat}{g g1 g2:G}{r:R}:cz X z c g true g1->dW X z body g1 (.rt r) g2->nB X z c body n g (.rt r) g2
noncomputable def WL(X:Cx)(e:Expr):TT:=λσ H Q=>∃t,PT X e t/\t σ H Q
theorem Rc{e:Expr}:PT X e (WL X e):=λah s σ H Q I h=>let ⟨t,q,k⟩:=h;q ah s σ H Q I k
theorem Fw{ce:Expr}{body:List Stmt}{n:Nat}{f:Fl}{g':G}(hp:PassesOwn (model X.prog X.w) X.A X.env X.xe)(h:nB X z ce body n g f g'):fU X z (.While ce body [] pos) g f g':=by
 refine⟨_,DS hp Rc zj,λσ As M H E s k=>?_⟩
 refine⟨λm σ2 H2=>∃g2 bw M2,S z g2 σ2 bw M2 H2/\au M H M2 H2/\nB X z ce body m g2 f g',⟨n,g,As,M,s,au.refl _ _,h⟩,?_⟩
 rintro m σ2 H2 ⟨g2,bw,M2,s2,aU,w⟩
 cases w with
 |done hc=>
  obtain⟨t,q,kt⟩:=hc
  exact⟨t,q,kt σ2 bw M2 H2 _ s2 λH3 jU M3 s3 gF=>qA (k σ2 jU M3 H3 s3 (aU.trans gF))⟩
 |@next m' _ g3 g4 _ _ hc hb w'=>
  obtain⟨t,q,kt⟩:=hc
  obtain⟨tb,qb,kb⟩:=hb
  refine⟨t,q,kt σ2 bw M2 H2 _ s2 λH3 jU M3 s3 gF=>lg ⟨λσ' H'=>∃g2 bw M2,S z g2 σ' bw M2 H'/\au M H M2 H'/\nB X z ce body m' g2 f g',λσ' H' hN=>⟨m',abx _,hN⟩,tb,qb,kb σ2 jU M3 H3 _ s3 λσ4 nq M4 H4 s4 rB=>?_⟩⟩
  exact⟨g4,nq,M4,s4,(aU.trans gF).trans rB,w'⟩
 |@cont m' _ g3 g4 _ _ hc hb w'=>
  obtain⟨t,q,kt⟩:=hc
  obtain⟨tb,qb,kb⟩:=hb
  refine⟨t,q,kt σ2 bw M2 H2 _ s2 λH3 jU M3 s3 gF=>lg ⟨λσ' H'=>∃g2 bw M2,S z g2 σ' bw M2 H'/\au M H M2 H'/\nB X z ce body m' g2 f g',λσ' H' hN=>⟨m',abx _,hN⟩,tb,qb,kb σ2 jU M3 H3 _ s3 λσ4 nq M4 H4 s4 rB=>?_⟩⟩
  exact⟨g4,nq,M4,s4,(aU.trans gF).trans rB,w'⟩
 |brk hc hb=>
  obtain⟨t,q,kt⟩:=hc
  obtain⟨tb,qb,kb⟩:=hb
  exact⟨t,q,kt σ2 bw M2 H2 _ s2 λH3 jU M3 s3 gF=>lg ⟨λ_ _=>False,λσ' H' hN=>hN.elim,tb,qb,kb σ2 jU M3 H3 _ s3 λσ4 nq M4 H4 s4 rB=>k σ4 nq M4 H4 s4 ((aU.trans gF).trans rB)⟩⟩
 |ret hc hb=>
  obtain⟨t,q,kt⟩:=hc
  obtain⟨tb,qb,kb⟩:=hb
  exact⟨t,q,kt σ2 bw M2 H2 _ s2 λH3 jU M3 s3 gF=>lg ⟨λ_ _=>False,λσ' H' hN=>hN.elim,tb,qb,kb σ2 jU M3 H3 _ s3 λv σ4 nq M4 H4 s4 rB R=>k v σ4 nq M4 H4 s4 ((aU.trans gF).trans rB) R⟩⟩
noncomputable def Kp:D->Option Bool
 |.bl b=>some b
 |.non=>some false
 |.int i=>some (i != 0)
 |.lst l=>some (!l.isEmpty)
 |.tup l=>some (!l.isEmpty)
 |.fix l=>some (!l.isEmpty)
 |_=>none
end
end Ev
namespace HT
section
variable{prog:Program}{w:World}{A:Around}{E:Value->Shared->Prop}{s:Shared}
theorem iY{t sl:Addr}{items:Array Value}{vl vu:Value}{lo hi:Option Int}{Q:Value->Shared->Prop}(ht:IsTup s.heap t items)(hs:s.heap.IsSliceOf sl vl vu .none)(pl:IsPart vl lo)(pu:IsPart vu hi)
  (hw:bU items.size 0 lo=0/\bU items.size items.size hi=items.size)
  (h:Q (.ref t) s):wpAny (model prog w) A (getItem (.ref t) (.ref sl)) Q E s:=by
 obtain⟨os,hos,hcs,hds⟩:=id hs
 have V7:s.TypeIs (.ref sl) "slice" :=⟨os,hos,hcs⟩
 unfold getItem
 try with_reducible refine aa8 ?_
 first |refine aad (aak ?_) |skip
 refine aad (wpAny_sequenceKey ht.typeIs (by decide) ?_)
 refine aad (aa5 (name:=Str.ofString "__getitem__") ht.typeIs aaW
  (abe aaW ht.typeIs entry_tuple_getitem ?_ (args_tuple_getitem _ _)))
 show wpAny _ _ (Builtin.Tuple.tupleItemsOf (.ref t) >>= _) _ _ s
 refine aad (tupleItemsOf_ ht ?_)
 refine aad (wpAny_typeOf V7 ?_)
 rw[aav (by decide)]
 refine aad (fP hs pl pu ?_)
 have hyes:(((bU items.size 0 lo:Nat):Int)==0&&(1:Int)==1&&(bU items.size items.size hi - bU items.size 0 lo)==items.size)=true:=by
  rw[hw.1,hw.2];simp
 show wpAny _ _ (if (((bU items.size 0 lo:Nat):Int)==0&&(1:Int)==1&&(bU items.size items.size hi - bU items.size 0 lo)==items.size)=true then _ else _) _ _ s
 rw[aav hyes]
 refine aad (m:=Builtin.Tuple.tupleIsExact _) (aad (wpAny_typeOf ht.typeIs (aak ?_)))
 rw[aav (by decide)]
 exact aad (wpAny_rule (aak ⟨_,rfl,aak h⟩))
end
end HT
namespace Ev
open L2
noncomputable def iG{α:Type}(xs:List α)(lo hi:Option Int):List α:=(xs.drop (HT.bU xs.length 0 lo)).take (HT.bU xs.length xs.length hi - HT.bU xs.length 0 lo)
theorem xE{α:Type}{xs:List α}{lo hi:Option Int}(h:HT.bU xs.length 0 lo=0/\HT.bU xs.length xs.length hi=xs.length):iG xs lo hi=xs:=by
 unfold iG
 rw[h.1,h.2,List.drop_zero,Nat.sub_zero,List.take_length]
section
variable{X:Cx}{z:Z}{pos p2:Pos}{g g1 g2 g3:G}{a:Expr}{lo hi:Option Expr}
noncomputable def rSlA(K:Frag):V->Option Int->Option Int->Hp->VK->Prop:=λx lo hi H Q=>∃a xs,x=.ref a/\iA K H a xs/\
 ((HT.bU xs.length 0 lo=0/\HT.bU xs.length xs.length hi=xs.length/\Q (.ref a) H)\/(¬ (HT.bU xs.length 0 lo=0/\HT.bU xs.length xs.length hi=xs.length)/\∀p,H p=none->Q (.ref p) (upd H p (.tup (sI xs lo hi)))))
theorem Kq:Yx X (rSlA X.K):=by
 intro ah s σ H x v vl vu lo hi sl Q I rx hs pl pu h
 obtain⟨a,xs,rfl,hx,h⟩:=h
 rcases h with ⟨h1,h2,q⟩ |⟨h1,q⟩
 .
  cases rx
  obtain⟨its,r,ht,hz⟩:=I.tuple hx
  have aL:its.toArray.size=xs.length:=by rw[aag];exact r.length.symm
  refine⟨"tuple",_,PyProof.Rows.slot_tuple_getitem.lookup,ht.typeIs,?_⟩
  exact HT.iY ht hs pl pu (by rw[aL];exact⟨h1,h2⟩) ⟨.ref a,H,I,rfl,q⟩
 .
  exact P1 ah s σ H (.ref a) v vl vu lo hi sl Q I rx hs pl pu ⟨a,xs,rfl,hx,h1,q⟩
def tD(X:Cx)(z:Z)(e:Option Expr)(g:G)(o:Option Int)(g':G):Prop:=
 ∃t,PO X e t/\∀σ As M H (Q:Option Int->Hp->Prop),S z g σ As M H->(∀H' aB M',S z g' σ aB M' H'->au M H M' H'->Q o H')->t σ H Q
theorem Bd:tD X z none g none g:=⟨_,Jz,λσ As M H Q s k=>k H As M s (au.refl _ _)⟩
theorem Be(h:aA X z e g (.dat (.int i)) g1):tD X z (some e) g (some i) g1:=by
 obtain⟨t,q,k⟩:=h
 refine⟨_,JB q,λσ As M H Q s kk=>k σ As M H _ s λv H' aB M' s' st R=>?_⟩
 have R':Rep z.K M' H' (.int i) v:=R
 cases R'
 exact⟨i,rfl,kk H' aB M' s' st⟩
theorem aI.cut{K:Frag}{M:List Addr}{H:Hp}{ds:List D}{vs:List V}(r:aI K M H ds vs)(l u:Option Int):aI K M H (iG ds l u) (sI vs l u):=by
 unfold iG sI
 rw[r.length]
 exact aI.take _ (aI.drop _ r)
theorem Bf{r:R}{l:List D}{d:D}{i j:Option Int}(hK:z.K=X.K)(h:aA X z a g r g1)(h1:tD X z lo g1 i g2)(h2:tD X z hi g2 j g3)(hp:pk r g3=some (.lst l)):aA X z (.Subscript a (.Slice lo hi none p2) pos) g (.new (iG l i j)) g3:=by
 obtain⟨t,q,k⟩:=h
 obtain⟨t1,q1,k1⟩:=h1
 obtain⟨t2,q2,k2⟩:=h2
 refine⟨_,oE yZ q q1 q2,λσ As M H Q s kk=>k σ As M H _ s λv H1 aM M1 s1 cO R=>k1 σ aM M1 H1 _ s1 λH2 bw M2 s2 aU=>k2 σ bw M2 H2 _ s2 λH3 jU M3 s3 gF=>?_⟩
 obtain⟨b,xs,rfl,e1,e2⟩:=(s3.pk (aU.trans gF) R hp).list
 refine⟨b,xs,rfl,cK.of e1,λp hp=>?_⟩
 exact kk _ _ jU (p::M3) (s3.aZ hp) (((cO.trans aU).trans gF).trans (au.aZ hp)) ⟨p,_,rfl,aah,λhA=>s3.fresh hp (s3.sub p hA),s3.cQ hp,aE,(e2.cut i j).stay (au.aZ hp)⟩
theorem Bg(hK:z.K=X.K)(h:aA X z a g (.dat (.fix l)) g1)(h1:tD X z lo g1 i g2)(h2:tD X z hi g2 j g3):aA X z (.Subscript a (.Slice lo hi none p2) pos) g (.new (iG l i j)) g3:=by
 obtain⟨t,q,k⟩:=h
 obtain⟨t1,q1,k1⟩:=h1
 obtain⟨t2,q2,k2⟩:=h2
 refine⟨_,oE yZ q q1 q2,λσ As M H Q s kk=>k σ As M H _ s λv H1 aM M1 s1 cO R=>k1 σ aM M1 H1 _ s1 λH2 bw M2 s2 aU=>k2 σ bw M2 H2 _ s2 λH3 jU M3 s3 gF=>?_⟩
 have R':Rep z.K M3 H3 (.fix l) v:=Rep.stay (aU.trans gF) R
 cases R' with
 |@fix _ b xs e1 e2=>
  refine⟨b,xs,rfl,hK▸e1.sq,λp hp=>?_⟩
  exact kk _ _ jU (p::M3) (s3.aZ hp) (((cO.trans aU).trans gF).trans (au.aZ hp)) ⟨p,_,rfl,aah,λhA=>s3.fresh hp (s3.sub p hA),s3.cQ hp,aE,(e2.cut i j).stay (au.aZ hp)⟩
theorem Bh(hK:z.K=X.K)(h:aA X z a g (.dat (.tup l)) g1)(h1:tD X z lo g1 i g2)(h2:tD X z hi g2 j g3):aA X z (.Subscript a (.Slice lo hi none p2) pos) g (.dat (.tup (iG l i j))) g3:=by
 obtain⟨t,q,k⟩:=h
 obtain⟨t1,q1,k1⟩:=h1
 obtain⟨t2,q2,k2⟩:=h2
 refine⟨_,oE Kq q q1 q2,λσ As M H Q s kk=>k σ As M H _ s λv H1 aM M1 s1 cO R=>k1 σ aM M1 H1 _ s1 λH2 bw M2 s2 aU=>k2 σ bw M2 H2 _ s2 λH3 jU M3 s3 gF=>?_⟩
 have R':Rep z.K M3 H3 (.tup l) v:=Rep.stay (aU.trans gF) R
 cases R' with
 |@tup _ b xs e1 e2=>
  refine⟨b,xs,rfl,hK▸e1.sq,?_⟩
  by_cases hw:HT.bU xs.length 0 i=0/\HT.bU xs.length xs.length j=xs.length
  .
   refine .inl ⟨hw.1,hw.2,kk _ _ jU M3 s3 ((cO.trans aU).trans gF) ?_⟩
   have e:iG l i j=l:=xE (by rw[e2.length];exact hw)
   rw[e]
   exact .tup e1 e2
  .
   exact .inr ⟨hw,λp hp=>kk _ _ jU M3 (s3.laid hp) (((cO.trans aU).trans gF).trans (au.laid hp)) (.tup (.inl ⟨s3.fresh hp,.inl aE⟩) ((e2.cut i j).stay (au.laid hp)))⟩
theorem Fy(hK:z.K=X.K)(h:aA X z e g r g1)(hp:pk r g1=some d)(hb:Kp d=some b)(he:∀whole,isTrue e X.env whole=(do let v <- whole;standAt e.pos;holding [v] (truthy v))):cz X z e g b g1:=by
 obtain⟨t,q,k⟩:=h
 refine⟨_,DW q he,λσ As M H Q s kk=>k σ As M H _ s λv H1 aM M1 s1 cO R=>⟨b,?_,kk H1 aM M1 s1 cO⟩⟩
 have p:=s1.pk (au.refl _ _) R hp
 cases d with
 |non=>rw[p.non];cases hb;rfl
 |bl c=>rw[p.bl];cases hb;rfl
 |int i=>rw[p.int];cases hb;rfl
 |str x=>cases hb
 |emp=>cases hb
 |mC _=>cases hb
 |lst l=>
  obtain⟨a,xs,rfl,e1,e2⟩:=p.list
  cases hb
  refine .inl ⟨xs,cK.of e1,?_⟩
  cases e2 <;> rfl
 |tup l=>
  obtain⟨a,xs,rfl,e1,e2⟩:=p.tup
  cases hb
  refine .inr (.inl ⟨xs,hK▸e1.sq,?_⟩)
  cases e2 <;> rfl
 |fix l=>
  obtain⟨a,xs,rfl,e1,e2⟩:=p.fix
  cases hb
  refine .inl ⟨xs,hK▸e1.sq,?_⟩
  cases e2 <;> rfl
end
section
variable{X:Cx}{z:Z}
theorem Rf(I:L2.Inv X ah σ H s)(p:Pk X.K M H d v)(r:RelV v u):∃Hh,PySem.W.KitX X.K u (Dn d) Hh/\Hh s.heap/\u≠.builtin "__main__.__loader__#opaque" :=by
 cases d with
 |non=>have q:=p.non;subst q;cases r;exact⟨_,PySem.W.kitx_none,True.intro,λz=>nomatch z⟩
 |bl y=>have q:=p.bl;subst q;cases r;exact⟨_,PySem.W.kitx_bool,True.intro,λz=>nomatch z⟩
 |int i=>have q:=p.int;subst q;obtain⟨t,rfl⟩:=r;exact⟨_,PySem.W.kitx_int,True.intro,λz=>nomatch z⟩
 |str y=>have q:=p.str;subst q;obtain⟨t,rfl⟩:=r;exact⟨_,PySem.W.kitx_str,True.intro,λz=>nomatch z⟩
 |tup l=>
  obtain⟨a,xs,rfl,ha,_⟩:=p.tup
  cases r
  obtain⟨its,_,⟨o,h1,h2,_⟩,_⟩:=I.tuple ha.sq
  exact⟨_,PySem.W.kitx_tuple,⟨o,h1,h2⟩,λz=>nomatch z⟩
 |lst l=>
  obtain⟨a,xs,rfl,ha,_⟩:=p.list
  cases r
  obtain⟨its,_,pl,_⟩:=I.list (cK.of ha)
  obtain⟨o,h1,h2,_⟩:=pl.isList
  exact⟨_,acn,⟨o,h1,h2⟩,λz=>nomatch z⟩
 |fix l=>
  obtain⟨a,xs,rfl,ha,_⟩:=p.fix
  cases r
  obtain⟨its,_,pl,_⟩:=I.list ha.sq
  obtain⟨o,h1,h2,_⟩:=pl.isList
  exact⟨_,acn,⟨o,h1,h2⟩,λz=>nomatch z⟩
 |emp=>
  cases p with
  |of q=>
   cases q with
   |emp _ ha=>
    cases r
    obtain⟨_,_,vs,_,o,es,ep,h1,h2,_⟩:=I.hok _ _ ha
    exact⟨_,PySem.W.kitx_dict,⟨o,h1,h2.1⟩,λz=>nomatch z⟩
 |mC C=>
  cases p with
  |of q=>
   cases q with
   |mC k _ ha=>
    cases r
    obtain⟨⟨o,h1,h2,h3,h4⟩,_⟩:=I.hok _ _ ha
    exact⟨_,uS k,⟨o,h1,h2,h3,by rw[h4];trivial⟩,λz=>nomatch z⟩
theorem zu:∀{ns:List String}{us:List Value},Vals (ns.map V.ty) us->us=ns.map Value.type
 | [],_,r=>by rw[List.map_nil]at r;cases r;rfl
 |n::ns,_,r=>by
  rw[List.map_cons]at r
  cases r with
  |cons r1 r2=>
   cases r1
   rw[zu r2]
   rfl
theorem Bj:fF X (.builtin "isinstance") (λxs H Q=>∃(x:V) (p:Addr) (ns:List String) (M:List Addr) (d:D) (b:Bool),xs=[x,.ref p]/\Pk X.K M H d x/\iA X.K H p (ns.map V.ty)/\PySem.W.kitAny X.K (Dn d) (ns.map Value.type)=some b/\Q (.bl b) H):=by
 intro ah s σ H xs us Q I r h
 obtain⟨x,p,ns,M,d,b,rfl,pk,hp,e,q⟩:=h
 obtain⟨u,w',rfl,r1,r2⟩:=vals2 r
 cases r2
 obtain⟨Hh,Zk,hH,hx⟩:=Rf I pk r1
 obtain⟨its,rv,⟨o,h1,h2,n,h3⟩,_⟩:=I.tuple hp
 rw[zu rv]at h3
 obtain⟨c,dd,dt,sl⟩:=o
 have h2':c=.type "tuple" :=h2
 have h3':dt=.seq (ns.map Value.type).toArray n:=h3
 subst h2' h3'
 exact PySem.W.kia_tup Zk I.nh hH h1 e hx λtk=>⟨.bl b,H,I.tok tk,rfl,q⟩
structure TyOk(X:Cx)(T:Str)(n:String):Prop where
 gl:Gl X T
 mg:X.mg T=none
 bt:bootBuiltins T=some (.type n)
 nn:T≠ "__name__"
 db:(T==("__debug__" : Str))=false
inductive oX(X:Cx):List Expr->List String->Prop
 |nil:oX X [] []
 |cons {T:Str}{n:String}{p:Pos}{es:List Expr}{ns:List String}:TyOk X T n->oX X es ns->oX X (.Name T p::es) (n::ns)
theorem oX.pa(h:oX X es ns):∃t,PA X es t/\∀σ H (Q:List V->Hp->Prop),Q (ns.map V.ty) H->t σ H Q:=by
 induction h with
 |nil=>exact⟨_,gJ,λσ H Q q=>q⟩
 |@cons T n p es ns h _ ih=>
  obtain⟨t,q,k⟩:=ih
  have pT:PE X (.Name T p) (tC (.ty n)):=sy h.gl h.mg h.bt rfl h.nn h.db
  exact⟨_,bG pT q rfl,λσ H Q hq=>k σ H _ hq⟩
theorem Kr(hK:z.K=X.K)(h:aA X z a g r1 g1)(hp:pk r1 g1=some d)(ht:oX X es ns)(hl:ns.length<=16777216)(he:∀M H v,Pk X.K M H d v->PySem.W.kitAny X.K (Dn d) (ns.map Value.type)=some b)
  (hg:Gl X "isinstance") (hm:X.mg "isinstance" = none) (hv:bootBuiltins "isinstance" = some (.builtin "isinstance"))
  (hs:starEach [a,.Tuple es k pT] X.env=(false,eval a X.env)::starEach [.Tuple es k pT] X.env):aA X z (.Call (.Name "isinstance" p) [a,.Tuple es k pT] [] pos) g (.dat (.bl b)) g1:=by
 obtain⟨t,q,kk⟩:=h
 obtain⟨tt,qt,kt⟩:=ht.pa
 refine⟨_,jZ Bj hg hm hv (bG q (bG (DY qt) gJ) hs) (by decide) (by decide) hs,λσ As M H Q s kq=>kk σ As M H _ s λv H' aB M' s' st R=>kt σ H' _ ⟨by rw[aaA];exact jl hl,λa ha=>?_⟩⟩
 have s2:=s'.laid (o:=.tup (ns.map V.ty)) ha
 have pp:=s'.pk (au.refl _ _) R hp
 refine⟨v,a,ns,M',d,b,rfl,?_,.inl (.inl aE),he _ _ _ (hK▸pp),kq _ _ aB M' s2 (st.trans (au.laid ha)) (.bl b)⟩
 rw[<- hK]
 cases pp with
 |of r=>exact .of (r.stay (au.laid ha))
 |lst e1 e2=>exact .lst (by rw[az (aH e1 ha)];exact e1) (e2.stay (au.laid ha))
variable{g g1:G}{pn aQ aG:Pos}{e:Expr}{i:Nat}{x:Str}{l l0 m:List D}{d:D}
theorem Bm(hN:X.N[i]?=some x)(hv:nI X.env.scope x)(hd:(x==("__debug__" : Str))=false)(bD:(x==("__classdict__" : Str))=false)(hg:g[i]?=some (.own l0))(h:cG X z [e] g [.dat (.lst m)] g1)(uC:g1[i]?=some (.own l))(hl:l.length+m.length<=16777216)
  (hbase:attributeBase (.Name x pn) "extend" X.env (eval (.Name x pn) X.env)=eval (.Name x pn) X.env)
  (hfew:((backTo aG (starEach [e] X.env)).all (λx=>!x.1)&&(backToKw aG (keywordEach [] X.env)).all (λx=>x.1.isSome)
   && decide ([e].length+([]:List Keyword).length+(if ([]:List Keyword).isEmpty then 0 else 1)<30))=true)
  (hline:(aQ.endLine==aG.line)=true) (hs:starEach [e] X.env=(false,eval e X.env)::starEach [] X.env):aA X z (.Call (.Attribute (.Name x pn) "extend" aQ) [e] [] aG) g (.dat .non) (g1.set i (.own (l++m))):=by
 obtain⟨t,q,k⟩:=h
 refine⟨_,y9 abN PySem.F.slot_list_extend PySem.F.type_list_extend Ao (dQ hN hv hd bD) q hbase hfew hline hs rfl,λσ As M H Q s kk=>?_⟩
 obtain⟨a,xs,e1,e2,e3,e4⟩:=s.sl.at hg
 refine⟨.ref a,e1,.inl ⟨rfl,xs,cK.of e3⟩,k σ As M H _ s λvs H' aB M' s' st R=>?_⟩
 obtain⟨b,ys,f1,f2,f3,f4⟩:=s'.sl.at uC
 rw[e1]at f1
 injection f1 with f1;injection f1 with f1;injection f1 with f1
 subst f1
 cases R with
 |dat r R=>
  cases R
  cases r with
  |@lst _ c zs hc rr=>
   refine⟨a,c,ys,zs,rfl,rfl,f3,hc.2,by rw[<- f4.length,<- rr.length,aaY];exact hl,?_⟩
   obtain⟨s2,aU⟩:=s'.write uC e1 (f4.append rr)
   exact kk _ _ aB M' s2 (st.trans aU) .non
end
noncomputable def ins(a:Int):List Int->List Int
 | []=>[a]
 |b::l=>if a<=b then a::b::l else b::ins a l
noncomputable def cA:List Int->List Int
 | []=>[]
 |a::l=>ins a (cA l)
theorem oY(a:Int):∀l:List Int,(ins a l).Perm (a::l)
 | []=>abp _
 |b::l=>by
  unfold ins
  split
  .
   exact abp _
  .
   exact ((oY a l).cons b).trans (List.Perm.swap a b l)
theorem dB:∀l:List Int,(cA l).Perm l
 | []=>abp _
 |a::l=>(oY a _).trans ((dB l).cons a)
theorem oZ(a:Int):∀{l:List Int},l.Pairwise (· <= ·)->(ins a l).Pairwise (· <= ·)
 | [],_=>List.pairwise_singleton _ _
 |b::l,h=>by
  obtain⟨h1,h2⟩:=abC.mp h
  unfold ins
  split
  .
   rename_i hab
   refine abC.mpr ⟨λx hx=>?_,h⟩
   rcases aaj.mp hx with rfl |hx
   .
    exact hab
   .
    exact Int.le_trans hab (h1 x hx)
  .
   rename_i hab
   refine abC.mpr ⟨λx hx=>?_,oZ a h2⟩
   rcases aaj.mp ((oY a l).mem_iff.mp hx)with rfl |hx
   .
    lia
   .
    exact h1 x hx
theorem ki:∀l:List Int,(cA l).Pairwise (· <= ·)
 | []=>List.Pairwise.nil
 |a::l=>oZ a (ki l)
theorem o7(hp:m.Perm l)(hs:m.Pairwise (· <= ·)):m=cA l:=
 (hp.trans (dB l).symm).eq_of_pairwise (λx y _ _ h1 h2=>Int.le_antisymm h1 h2) hs (ki l)
section
variable{prog:Program}{w:World}{A:Around}{E:Value->Shared->Prop}{s:Shared}
theorem jo(hl:IsTup s.heap l vs.toArray)
  (h:Q vs { s with heap:=(s.heap.push (seqObj "list" #[] 0)).update s⁻¹ (Obj.mapSeq (· ++ vs.toArray))}) (jS:vs.length<=sizeLine) :
  wpAny (model prog w) A (collect (.ref l)) Q E s:=by
 obtain⟨o,ho,hc,n,hd⟩:=id hl
 unfold collect
 refine aad (wpAny_runValue (codeAny_builtin entry_proto_collect' ?_))
 show wpAny _ _ (do again (.builtin "list.__iadd__" ⟨[<- newList [],.ref l],[]⟩)) _ _ s
 refine aad (wpAny_newList (aak ⟨Code.quiet_builtin _ (by decide +kernel),codeAny_builtin entry_list_iadd' ?_⟩))
 show wpAny _ _ (Builtin.List.listExtendWith (.ref s⁻¹) (.ref l) (.ref s⁻¹)) _ _ { s with heap:=s.heap.push (seqObj "list" #[] 0)}
 unfold Builtin.List.listExtendWith
 have ho':(s.heap.push (seqObj "list" #[] 0)).get? l=some o:=aae _ ho
 refine aad (wpAny_typeOf (T:= "tuple") ⟨o,ho',hc⟩ ?_)
 have ht:(Value.type "tuple" == Value.type "tuple")=true:=by rfl
 rw[aav (by rw[ht];simp)]
 refine aad (listItems_at ho' hd ?_)
 refine aad (listItems_at (xs:=#[]) (n:=0) (aaq _ rfl) rfl ?_)
 rw[aau (by simp)]
 refine aad (listUpdate_at (xs:=#[]) (n:=0) (aaq _ rfl) rfl ?_ (abf _) (by show (#[]++vs.toArray).size<=sizeLine+1;simp only[Array.size_append,aag,ab8];lia))
 refine aak ?_
 show wpAny (model prog w) A (do
   let o <- load s⁻¹
   match o.data with
   |.seq xs _=>pure xs.toList
   |_=>unsupported "internal:collect") Q E { s with heap:=(s.heap.push (seqObj "list" #[] 0)).update s⁻¹ (Obj.mapSeq (· ++ vs.toArray))}
 refine aad (wpAny_load (get?_update_seq (aaq _ rfl) _) ?_)
 show wpAny _ _ (pure ((#[]:Array Value)++vs.toArray).toList) Q E _
 rw[show ((#[]:Array Value)++vs.toArray).toList=vs by simp]
 exact aak h
theorem tE(hl:IsTup s.heap l vs.toArray)(hI:IntsAre vs ns)(h64:vs.length<64)
  (h:∀(out:Array Value) (ns':List Int),IntsAre out.toList ns'->ns'.Perm ns->ns'.Pairwise (· <= ·)->Q (.ref (s⁻¹+1)) { s with heap:=sortedAll s.heap vs out}) :
  wpAny (model prog w) A (call (.builtin "sorted") [.ref l]) Q E s:=by
 refine Calls.call_function_entry kind_sorted plain_sorted entry_sorted (args_sorted1 _) ?_
 unfold Builtin.«sorted»
 refine aad (m:=checkCount "sorted" 1 1 _) (aak ?_)
 refine aad (jo hl ?_ (by rw[aaY];lia))
 refine aad (wpAny_newList ?_)
 have jS:((s.heap.push (seqObj "list" #[] 0)).update s⁻¹ (Obj.mapSeq (· ++ vs.toArray))).objs.size=s⁻¹+1:=by
  rw[Heap.size_update,size_push']
 have Yr:(((s.heap.push (seqObj "list" #[] 0)).update s⁻¹ (Obj.mapSeq (· ++ vs.toArray))).push (seqObj "list" vs.toArray 0)).get? (s⁻¹+1)=some (seqObj "list" vs.toArray 0):=by
  rw[<- jS];exact aaq _ rfl
 show wpAny _ _ _ _ _ { s with heap:=((s.heap.push (seqObj "list" #[] 0)).update s⁻¹ (Obj.mapSeq (· ++ vs.toArray))).push (seqObj "list" vs.toArray 0)}
 rw[jS]
 refine aad (aa8 (abe slot_list_sort ⟨_,Yr,rfl⟩ entry_list_sort (list_sort_tree Yr hI h64 λout ns' a1 a2 a3=>⟨_,rfl,?_⟩) (args_list_sort _)))
 exact aak ⟨_,rfl,h out ns' a1 a2 a3⟩
end
section
variable{X:Cx}{z:Z}
theorem uV:fF X (.builtin "sorted") (λxs H Q=>∃p ns,xs=[.ref p]/\(cK X.K H p (ns.map V.int)\/iA X.K H p (ns.map V.int))/\ns.length<64/\∀q,H q=none->Q (.ref q) (upd H q (.lst ((cA ns).map V.int)))):=by
 intro ah s σ H xs us Q I r h
 obtain⟨p,ns,rfl,hq,hl,q⟩:=h
 obtain⟨u,rfl,rx⟩:=vals1 r
 cases rx
 have fin:∀(vs:List Value) (out:Array Value) (ns':List Int),IntsAre out.toList ns'->ns'.Perm ns->ns'.Pairwise (· <= ·)->EP X ah σ Q (.ref (s⁻¹+1)) { s with heap:=sortedAll s.heap vs out}:=λvs out ns' a1 a2 a3=>by
  have e:=o7 a2 a3
  subst e
  obtain⟨ep,he⟩:=sortedAll_at s.heap vs out
  have aL:(cA ns).length=ns.length:=(dB ns).length_eq
  refine⟨.ref (s⁻¹+1),_,I.laid (t':=s.toks) (o:=.lst ((cA ns).map V.int)) (λb o e=>sortedAll_old e) (acj _) ?_,rfl,q _ (I.hok.fresh (acj _))⟩
  refine⟨by rw[aaA,aL,aaY];lia,out.toList,ep,k9 a1,?_⟩
  rw[he]
 rcases hq with hq |hq
 .
  obtain⟨its,r',pl,hz⟩:=I.list hq
  have aL:=r'.length
  rw[aaA]at aL
  exact sorted_ints pl.isList (intsAre_of r') (by lia) λout ns' a1 a2 a3=>fin its out ns' a1 a2 a3
 .
  obtain⟨its,r',pl,hz⟩:=I.tuple hq
  have aL:=r'.length
  rw[aaA]at aL
  exact tE pl (intsAre_of r') (by lia) λout ns' a1 a2 a3=>fin its out ns' a1 a2 a3
theorem rD{K:Frag}{M:List Addr}{H:Hp}:∀ns:List Int,aI K M H (ns.map D.int) (ns.map V.int)
 | []=>.nil
 |n::ns=>.cons (.int n) (rD ns)
theorem Bo(hK:z.K=X.K)(h:cR d=some l)(hi:bZ l=some ns)(hl:ns.length<64):CallD X z (.builtin "sorted") [d] (.new ((cA ns).map .int)):=by
 refine⟨_,uV,λg σ As M H vs Q s p k=>?_⟩
 obtain⟨v,rfl,pv⟩:=p.one
 have fin:∀q,H q=none->Q (.ref q) (upd H q (.lst ((cA ns).map V.int))):=λq hq=>k _ _ As (q::M) (s.aZ hq) (au.aZ hq) ⟨q,_,rfl,aah,λhA=>s.fresh hq (s.sub q hA),s.cQ hq,aE,rD _⟩
 cases d with
 |lst m=>
  cases h
  obtain⟨a,xs,rfl,e1,e2⟩:=pv.list
  have:=ez e2 hi
  subst this
  exact⟨a,ns,rfl,.inl (cK.of e1),hl,fin⟩
 |tup m=>
  cases h
  obtain⟨a,xs,rfl,e1,e2⟩:=pv.tup
  have:=ez e2 hi
  subst this
  exact⟨a,ns,rfl,.inr (hK▸e1.sq),hl,fin⟩
 |fix m=>
  cases h
  obtain⟨a,xs,rfl,e1,e2⟩:=pv.fix
  have:=ez e2 hi
  subst this
  exact⟨a,ns,rfl,.inl (hK▸e1.sq),hl,fin⟩
 |_=>cases h
end
section
variable{X:Cx}{z:Z}{g g1:G}{p rp pos lp:Pos}{a b:Expr}
def WM(X:Cx)(z:Z)(e:Expr)(g:G)(lo hi:Int)(g1:G):Prop:=
 ∀(ah:List (Addr×Obj)) (s:Shared) (σ:Sg) (As M:List Addr) (H:Hp) (Post:Value->Shared->Prop),L2.Inv X ah σ H s->S z g σ As M H->
  (∀r s1 H1 aM M1 t u v,L2.Inv X ah σ H1 s1->S z g1 σ aM M1 H1->au M H M1 H1->IsRange s1.heap r lo hi 1 t u v->Post (.ref r) s1)->wpAny (model X.prog X.w) X.A (eval e X.env) Post X.xe s
theorem cG.run(ha:cG X z es g rs g1)(I:L2.Inv X ah σ H s)(st:S z g σ As M H)
  (k:∀vs us s1 H1 aM M1,L2.Inv X ah σ H1 s1->Vals vs us->S z g1 σ aM M1 H1->au M H M1 H1->jB z σ M1 H1 rs vs->Post us s1):wpAny (model X.prog X.w) X.A (spliced (backTo pos (starEach es X.env))) Post X.xe s:=by
 obtain⟨t,q,kt⟩:=ha
 exact bN (q pos ah s σ H (λvs H1=>∃aM M1,S z g1 σ aM M1 H1/\au M H M1 H1/\jB z σ M1 H1 rs vs) I (kt σ As M H _ st λvs H1 aM M1 s1 cO R=>⟨aM,M1,s1,cO,R⟩)) λus s1 ⟨vs,H1,I1,r1,aM,M1,q1,q2,q3⟩=>k vs us s1 H1 aM M1 I1 r1 q1 q2 q3
theorem rg_1(h:cG X z [a] g [.dat (.int j)] g1)(hg:Gl X "range")(hm:X.mg "range" = none)(hs:starEach [a] X.env=[(false,eval a X.env)]):WM X z (.Call (.Name "range" p) [a] [] rp) g 0 j g1:=by
 intro ah s σ As M H Post I st k
 refine Call_ (gH I hg hm boot_range (aaU (h.run I st λvs us s1 H1 aM M1 I1 r1 q1 q2 q3=>?_) hs rfl))
 cases q3 with
 |dat r R=>
  cases R
  cases r
  cases r1 with
  |cons r rr=>
   cases rr
   obtain⟨t,rfl⟩:=r
   exact call_range_1 (k _ _ H1 aM M1 _ _ _ (I1.kept λb o e=>aae _ e) q1 q2 (IsRange.new ..))
noncomputable def xF(lo:Int)(n:Nat):List V:=(List.range n).map λ(k:Nat)=>V.int (lo+(k:Int))
theorem Bp{lo:Int}{n:Nat}{acc:Array Value}(h:ItemsOf (λi v=>∃t,v=Value.int (lo+(i:Int) * 1) t) acc n):Vals (xF lo n) acc.toList:=by
 have key:∀(m:Nat) (l:List Value) (o:Nat),l.length=m->(∀j v,l[j]?=some v->∃t,v=Value.int (lo+((o+j:Nat):Int)) t)->Vals ((List.range' o m).map λ(k:Nat)=>V.int (lo+(k:Int))) l:=by
  intro m
  induction m with
  |zero=>intro l o hl _;cases l with
   |nil=>exact .nil
   |cons _ _=>simp at hl
  |succ m ih=>
   intro l o hl hv
   cases l with
   |nil=>simp at hl
   |cons v l=>
    rw[ab3,List.map_cons]
    obtain⟨t,e⟩:=hv 0 v rfl
    refine .cons ⟨t,by rw[e];rfl⟩ (ih l (o+1) (by simpa using hl) λj w hw=>?_)
    obtain⟨t',e'⟩:=hv (j+1) w (by simpa using hw)
    exact⟨t',by rw[e',show o+(j+1)=o+1+j by lia]⟩
 unfold xF
 rw[ab0]
 refine key n acc.toList 0 (by rw[aa9];exact h.1) λj v hv=>?_
 obtain⟨t,e⟩:=h.2 j v (by rw[<- Array.getElem?_toList];exact hv)
 exact⟨t,by rw[e,Nat.zero_add,Int.mul_one]⟩
theorem Bq{K:Frag}{M:List Addr}{H:Hp}(lo:Int)(n:Nat):aI K M H (cS lo n) (xF lo n):=by
 unfold cS xF
 induction List.range n with
 |nil=>exact .nil
 |cons k l ih=>exact .cons (.int _) ih
theorem Fz{e:Expr}{lo hi:Int}(h:WM X z e g lo hi g1)(hc:X.calm=true)(hg:Gl X "list")(hm:X.mg "list" = none)(hs:starEach [e] X.env=[(false,eval e X.env)])(h1 : -(2 ^ 62)<=lo/\lo<2 ^ 62/\-(2 ^ 62)<=hi/\hi<2 ^ 62)(hl:(hi - lo).toNat<=16777216) :
  aA X z (.Call (.Name "list" lp) [e] [] pos) g (.new (cS lo (hi - lo).toNat)) g1:=by
 refine aA.of λah s σ As M H Post I st k=>?_
 refine Call_ (gH I hg hm (by rfl:bootBuiltins ("list" : Str)=some (.type "list")) (aaU ?_ hs rfl))
 rw[hs]
 show wpAny _ _ (spliced ((false,eval e X.env)::[])) _ _ s
 refine Calls.spliced_cons (h ah s σ As M H _ I st λr s1 H1 aM M1 t u v I1 q1 q2 hr=>Calls.spliced_nil ?_)
 have hn:Builtin.Range.rangeSize lo hi 1=(((hi - lo).toNat:Nat):Int):=by rw[rangeSize_one];split <;> lia
 refine call_list_range (I1.ok.hd hc) hr (small_one h1.1 h1.2.1 h1.2.2.1 h1.2.2.2) hn hl λh' tk acc' c' hk hS' hacc=>?_
 have hf:H1 s1⁻¹=none:=I1.hok.fresh (aal _)
 have s2:=q1.aZ (xs:=xF lo (hi - lo).toNat) hf
 have vv:=Bp hacc
 have I2:L2.Inv X ah σ (upd H1 s1⁻¹ (.lst (xF lo (hi - lo).toNat))) { s1 with heap:=h',toks:=tk}:=
  I1.laid (t':=tk) hk (aal _) (show dc X.prog X.w _ h' _ (.lst (xF lo (hi - lo).toNat))from⟨by rw[vv.length,aa9,hacc.1];exact jl hl,acc'.toList,c',vv,by simpa using hS'⟩)
 exact k (.ref s1⁻¹) _ _ _ aM (s1⁻¹::M1) I2 rfl s2 (q2.trans (au.aZ hf)) ⟨_,_,rfl,aah,λhA=>q1.fresh hf (q1.sub _ hA),q1.cQ hf,aE,Bq _ _⟩
end
section
variable{X:Cx}{z:Z}
end
theorem o8(o:Obj)(f):(o.mapFields f).dict=o.dict:=by
 obtain⟨c,d,dt,sl⟩:=o
 cases dt <;> rfl
structure uD(h₀:Heap)(x C:Addr)(H:Hp)(h:Heap):Prop where
 obj:∃oe vs,h.get? x=some oe/\oe.cls=.ref C/\oe.dict=none/\oe.data=.fields vs/\1<vs.size/\(vs[1]?=some .none\/∃T oT ts,vs[1]?=some (.ref T)/\T≠x/\h₀.get? T=none/\H T=none/\h.get? T=some oT/\oT.data=.fields ts/\ts[3]?=some .none)
 new:h₀.get? x=none
 no:H x=none
section
variable{M:Model}{A:Around}{E:Value->Shared->Prop}{s:Shared}
theorem kj
  (hfr:A.frames=some (env::outer)) (hl:s.heap.FunFrames base (env::outer)) (hf:env.frame=some L) (he:s.heap.get? x=some oe) (hd:oe.data=.fields vs) (jS:1<vs.size)
  (h:∀h',(∀b o,b∉frs (env::outer)->b≠x->s.heap.get? b=some o->h'.get? b=some o)->(∀b o,b∈frs (env::outer)->s.heap.get? b=some o->∃sl,h'.get? b=some { o with slots:=sl})->
   (∃Dq vs' oT ts,h'.get? x=some Dq/\Dq.cls=oe.cls/\Dq.dict=oe.dict/\Dq.data=.fields vs'/\1<vs'.size/\vs'[1]?=some (.ref s⁻¹)/\h'.get? s⁻¹=some oT/\oT.data=.fields ts/\ts[3]?=some .none)->Q () { s with heap:=h'}) :
  wpAny M A (do let a <- frameOf env;let pl <- entryPlaceOf L hadNext;let b <- EntryCells.newEntry head a .none (rawInt L) .none pl;setField (.ref x) 1 b) (λ_ s'=>wpAny M A (setFlight (.ref x) none) Q E s') E s:=by
 have hx:x∉(env::outer).filterMap (·.frame):=λhm=>by
  obtain⟨_,o,ho,hnf⟩:=hl.mem hm
  rw[he]at ho;cases ho;exact hnf vs hd
 refine aad (wpAny_frameOf_fun hfr hl hf λh₁ hs₁=>?_)
 refine aad (wpAny_entryPlaceOf λpl iu=>?_)
 unfold EntryCells.newEntry newFields
 refine aad (aaS ?_ (iu.sizeOk5 _ _ _ _ _))
 have he₁:h₁.get? x=some oe:=(hs₁.2.1 x hx).trans he
 generalize hO:({ cls:=.type "traceback",dict:=none,data:=.fields ([head,.ref L,.none,rawInt L,.none]++(if pl.isEmpty then List.replicate 6 Value.none else pl)).toArray}:Obj)=O
 have he₂:=aae (h:=h₁) O he₁
 have hsz₁:h₁.objs.size=s⁻¹:=hs₁.1
 have hT₂:(h₁.push O).get? h₁.objs.size=some O:=aaq _ (by rw[<- hO];rfl)
 refine ab1 he₂ hd jS ?_
 have Rg:h₁.objs.size≠x:=abK (aas he₁)
 have hd₃:=abm hd (·.setIfInBounds 1 (Value.ref h₁.objs.size))
 have he₃:=abi (Obj.mapFields (·.setIfInBounds 1 (Value.ref h₁.objs.size))) he₂ (abD hd₃)
 have hT₃:=(aaJ (h₁.push O) (Obj.mapFields (·.setIfInBounds 1 (Value.ref h₁.objs.size))) (aaX Rg)).trans hT₂
 have hdO:O.data=.fields ([head,.ref L,.none,rawInt L,.none]++(if pl.isEmpty then List.replicate 6 Value.none else pl)).toArray:=by rw[<- hO]
 unfold setFlight
 refine aad (aaR he₃ hd₃ (x:=.ref h₁.objs.size) (by simp[jS]) ?_)
 rw[aav (show (Value.ref h₁.objs.size != Value.none)=true from by simp)]
 refine ab1 hT₃ hdO (by simp only[aag,aaw,aaQ,ab8] <;> lia) (h _ ?_ ?_ ?_)
 .
  intro b o hb Ks ho
  have WN:h₁.get? b=some o:=(hs₁.2.1 b hb).trans ho
  rw[aaJ _ _ (abK (aas WN)),aaJ _ _ (aaX Ks)]
  exact aae _ WN
 .
  intro b o hb ho
  obtain⟨sl,WN⟩:=hs₁.2.2 b o ho
  have Ks:b≠x:=λq=>hx (q▸hb)
  refine⟨sl,?_⟩
  rw[aaJ _ _ (abK (aas WN)),aaJ _ _ (aaX Ks)]
  exact aae _ WN
 .
  rw[<- hsz₁]
  refine⟨_,_,_,_,(aaJ _ _ Rg).trans he₃,Obj.cls_mapFields _ _,o8 _ _,hd₃,by simp[jS],by simp[jS],abi _ hT₃ (abD (abm hdO _)),abm hdO _,?_⟩
  first
   | (simp;done)
   | (rcases iu with rfl |⟨_,_,_,_,_,_,_,rfl⟩ <;> simp)
theorem qB
  (hfr:A.frames=some (env::outer)) (hl:s.heap.FunFrames base (env::outer)) (hf:env.frame=some L) (fl:uD h₀ x C H s.heap) (hn:h₀.get? s⁻¹=none) (hH:∀b,s⁻¹<=b->H b=none)
  (h:∀h',(∀b o,b∉frs (env::outer)->(h₀.get? b=none->H b=none->∀vs,o.data≠.fields vs)->s.heap.get? b=some o->h'.get? b=some o)->(∀b o,b∈frs (env::outer)->s.heap.get? b=some o->∃sl,h'.get? b=some { o with slots:=sl})->
   uD h₀ x C H h'->(∀b o,s.heap.get? b=some o->∃o',h'.get? b=some o')->Q () { s with heap:=h'}):wpAny M A (noteFrame (.ref x) env) (λ_ s'=>wpAny M A (setFlight (.ref x) none) Q E s') E s:=by
 obtain⟨⟨oe,vs,he,hc,bD,hd,jS,hT⟩,U0,U1⟩:=fl
 have hxf:x∉frs (env::outer):=λhm=>by
  obtain⟨_,o,ho,hnf⟩:=hl.mem hm
  rw[he]at ho;cases ho;exact hnf vs hd
 have fin:∀(T0:Addr) (h1 h':Heap),(∀b,b≠T0->h1.get? b=s.heap.get? b)->(T0=x\/(h₀.get? T0=none/\H T0=none/\T0∉frs (env::outer)/\∃oT ts,s.heap.get? T0=some oT/\oT.data=.fields ts))->(∀o,s.heap.get? T0=some o->∃o',h1.get? T0=some o')->h1.objs.size=s⁻¹->
   (∀b o,b∉frs (env::outer)->b≠x->h1.get? b=some o->h'.get? b=some o)->(∀b o,b∈frs (env::outer)->h1.get? b=some o->∃sl,h'.get? b=some { o with slots:=sl})->
   (∃Dq vs' oT ts,h'.get? x=some Dq/\Dq.cls=oe.cls/\Dq.dict=oe.dict/\Dq.data=.fields vs'/\1<vs'.size/\vs'[1]?=some (.ref h1.objs.size)/\h'.get? h1.objs.size=some oT/\oT.data=.fields ts/\ts[3]?=some .none)->Q () { s with heap:=h'}:=by
  intro T0 h1 h' a1 a2 a2' a3 k1 k2 ⟨Dq,vs',oT,ts,e1,e2,JM,e3,e4,e5,e6,e7,e8⟩
  have hTf:T0∉frs (env::outer):=a2.elim (λq=>q▸hxf) λq=>q.2.2.1
  refine h h' (λb o hb hH' ho=>?_) (λb o hb ho=>?_) ⟨⟨Dq,vs',e1,e2.trans hc,JM.trans bD,e3,e4,.inr ⟨h1.objs.size,oT,ts,e5,?_,?_,?_,e6,e7,e8⟩⟩,U0,U1⟩ λb o ho=>?_
  .
   have Ks:b≠x:=λq=>by
    subst q;rw[he]at ho;cases ho
    exact hH' U0 U1 vs hd
   have YG:b≠T0:=λq=>a2.elim (λz=>Ks (q.trans z)) λ⟨z1,z2,_,oT,ts,z3,z4⟩=>by
    subst q;rw[z3]at ho;cases ho
    exact hH' z1 z2 ts z4
   exact k1 b o hb Ks ((a1 b YG).trans ho)
  .
   exact k2 b o hb ((a1 b (λq=>hTf (q▸hb))).trans ho)
  .
   rw[a3];exact abK (aas he)
  .
   rw[a3];exact hn
  .
   rw[a3];exact hH _ (aal _)
  .
   by_cases Ks:b=x
   .
    exact⟨Dq,Ks▸e1⟩
   .
    have h1b:∃o1,h1.get? b=some o1:=by
     by_cases YG:b=T0
     .
      subst YG;exact a2' o ho
     .
      exact⟨o,(a1 b YG).trans ho⟩
    obtain⟨o1,N5⟩:=h1b
    by_cases hb:b∈frs (env::outer)
    .
     obtain⟨sl,q⟩:=k2 b o1 hb N5;exact⟨_,q⟩
    .
     exact⟨o1,k1 b o1 hb Ks N5⟩
 unfold noteFrame
 simp only[hf]
 rcases hT with hT |⟨T,oT,ts,h1,Rg,YH,YJ,Je,Jf,h3⟩
 .
  refine aad (aaR he hd hT ?_)
  rw[aau (by decide)]
  exact kj hfr hl hf he hd jS λh' k1 k2 k3=>fin x s.heap h' (λ_ _=>rfl) (.inl rfl) (λo ho=>⟨o,ho⟩) rfl k1 k2 k3
 .
  refine aad (aaR he hd h1 ?_)
  rw[aav (show (Value.ref T != Value.none)=true from by simp)]
  refine aad (aaR Je Jf h3 ?_)
  rw[aau (show ¬ ((Value.none==rawInt L)=true)from by simp[rawInt])]
  refine aad (ab1 Je Jf (abv.mp h3).1 ?_)
  have other:∀b,b≠T->(s.heap.update T (Obj.mapFields (·.setIfInBounds 3 Value.none))).get? b=s.heap.get? b:=λb hb=>aaJ _ _ (aaX hb)
  have hTf:T∉frs (env::outer):=λhm=>by
   obtain⟨_,o,ho,hnf⟩:=hl.mem hm
   rw[Je]at ho;cases ho;exact hnf ts Jf
  have rec':∀b o,s.heap.get? b=some o->(∀vs,o.data≠.fields vs)->b≠T:=λb o hb hnf q=>by
   rw[q,Je]at hb;cases hb;exact hnf ts Jf
  refine kj hfr (hl.of_keeps λb o hb hnf=>⟨o,(other b (rec' b o hb hnf)).trans hb,rfl⟩) hf ((other x (aaX Rg)).trans he) hd jS λh' k1 k2 k3=>?_
  exact fin T _ h' other (.inr ⟨YH,YJ,hTf,oT,ts,Je,Jf⟩) (λo ho=>⟨_,abi _ Je (abD (abm Jf _))⟩) (Heap.size_update ..) k1 k2 k3
end
theorem uD.mono(f:uD h₁ x C H h)(hm:∀b o,h₀.get? b=some o->∃o',h₁.get? b=some o'):uD h₀ x C H h:=by
 have no:∀b,h₁.get? b=none->h₀.get? b=none:=λb hb=>by
  cases e:h₀.get? b with
  |none=>rfl
  |some o=>obtain⟨o',e'⟩:=hm b o e;rw[hb]at e';cases e'
 obtain⟨⟨oe,vs,h1,h2,h2',h3,h4,h5⟩,h6,h7⟩:=f
 exact⟨⟨oe,vs,h1,h2,h2',h3,h4,h5.imp id λ⟨T,oT,ts,q1,q2,q3,q4⟩=>⟨T,oT,ts,q1,q2,no T q3,q4⟩⟩,no x h6,h7⟩
noncomputable def Dr(P:Program)(w:World):Al:=λouter H s E e s'=>∃x C H',e=.ref x/\s'.os=s.os/\AllBare s'.gens/\Un (frs outer) [] H H' s.heap s'.heap/\kX P w H' s'.heap/\uD s.heap x C H' s'.heap/\E (.ref C) none H'
theorem FG(hx:X.ex=[])(I:L2.Inv X ah σ H s)(h:Dr X.prog X.w X.stack H s E e s') :
  ∃x C H',e=.ref x/\L2.Inv X ah σ H' s'/\uD X.s₀.heap x C H' s'.heap/\E (.ref C) none H':=by
 obtain⟨x,C,H',rfl,h1,h2,h3,h4,h5,h6⟩:=h
 exact⟨x,C,H',rfl,I.call' h1 h3 h4 h2 (λb z=>absurd z (by simp)),h5.mono λb o e=>I.base.there b o e (by rw[hx];simp),h6⟩
section
variable{X:Cx}{ah:List (Addr×Obj)}{σ:Sg}{H':Hp}{s':Shared}{x C:Addr}{Q:Unit->Shared->Prop}{E':Value->Shared->Prop}
theorem uW(I:L2.Inv X ah σ H' s')(d9:X.stack=X.env::X.outer)(hf:X.env.frame=some X.env.locals)(hex:X.ex=[])(fl:uD X.s₀.heap x C H' s'.heap)
  (h:∀h'',(∀b o,b∉frs (X.env::X.outer)->(X.s₀.heap.get? b=none->H' b=none->∀vs,o.data≠.fields vs)->s'.heap.get? b=some o->h''.get? b=some o)->(∀b o,b∈frs (X.env::X.outer)->s'.heap.get? b=some o->∃sl,h''.get? b=some { o with slots:=sl})->
   Un (frs X.outer) [] X.H₀ H' X.s₀.heap h''->kX X.prog X.w H' h''->uD X.s₀.heap x C H' h''->Q () { s' with heap:=h''}) :
  wpAny (model X.prog X.w) X.A (noteFrame (.ref x) X.env) (λ_ s2=>wpAny (model X.prog X.w) X.A (setFlight (.ref x) none) Q E' s2) E' s':=by
 have hl:=I.stack
 rw[d9]at hl
 have ub:Un (frs X.outer) [] X.H₀ H' X.s₀.heap s'.heap:=hex▸I.base
 have hsf:=I.sr
 rw[d9]at hsf
 refine qB (L:=X.env.locals) (I.ok.frames.trans (by rw[d9])) hl hf fl (Heap.get?_none_of_le I.sz) (λb hb=>I.hok.fresh hb) λh'' k1 k2 k3 k4=>?_
 have hin:∀b,b∈frs X.outer->b∈frs (X.env::X.outer):=λb hb=>by
  unfold frs;rw[aa0,hf];exact aaf _ hb
 have hno:∀b o,X.s₀.heap.get? b=some o->b∉frs X.outer->b∉frs (X.env::X.outer):=λb o ho hb hm=>by
  unfold frs at hm;rw[aa0,hf]at hm
  rcases aaj.mp hm with e |hm
  .
   rw[e]at ho;exact aa7 _ (aan (aas ho) I.ok.above)
  .
   exact hb hm
 have uz:∀b o (ob:Obj),X.s₀.heap.get? b=some o->(X.s₀.heap.get? b=none->H' b=none->∀vs,ob.data≠.fields vs):=λb o ob ho hb=>by rw[ho]at hb;cases hb
 refine h h'' k1 k2 ⟨λb o q n hb hx=>?_,λb o q n hb hx=>?_,ub.free,λb o q hx=>?_,ub.tups,ub.jV,ub.jW⟩ (λa o e=>?_) k3
 .
  exact k1 b o (hno b o q hb) (uz b o _ q) (ub.keep b o q n hb hx)
 .
  obtain⟨sl,e1⟩:=ub.slot b o q n hb hx
  obtain⟨Yq,e2⟩:=k2 b _ (hin b hb) e1
  exact⟨Yq,e2⟩
 .
  obtain⟨o',e1⟩:=ub.there b o q hx
  exact k4 b o' e1
 .
  refine (I.hok a o e).stay (λb u hb q=>?_) (λ_ q=>q) λ_ _ q=>q
  have ht:H' b≠none:=by
   rcases hb with rfl |hb
   .
    rw[e];simp
   .
    rw[hb];simp
  exact k1 b u (λhm=>ht (hsf b hm)) (λ_ z=>absurd z ht) q
theorem rE(I:L2.Inv X ah σ H' s')(d9:X.stack=X.env::X.outer)(hf:X.env.frame=some X.env.locals)(hex:X.ex=[])(fl:uD X.s₀.heap x C H' s'.heap)
  (h:∀s'',Dr X.prog X.w X.outer X.H₀ X.s₀ (λc o h=>c=.ref C/\o=none/\h=H') (.ref x) s''->Q () s'') :
  wpAny (model X.prog X.w) X.A (leaving X.env (.ref x)) Q E' s':=by
 unfold leaving
 exact aad (uW I d9 hf hex fl λh'' _ _ u k f=>h _ ⟨x,C,H',rfl,I.os,I.bare,u,k,f,rfl,rfl,rfl⟩)
theorem Br(I:L2.Inv X [] σ H' s')(hp:X.pn=[])(d9:X.stack=X.env::X.outer)(hf:X.env.frame=some X.env.locals)(hex:X.ex=[])(fl:uD X.s₀.heap x C H' s'.heap)
  (h:∀s'',L2.Inv X [] σ H' s''->uD X.s₀.heap x C H' s''.heap->Q () s'') :
  wpAny (model X.prog X.w) X.A (noteFrame (.ref x) X.env) (λ_ s2=>wpAny (model X.prog X.w) X.A (setFlight (.ref x) none) Q E' s2) E' s':=by
 refine uW I d9 hf hex fl λh'' k1 k2 u k f=>h _ ?_ f
 have cellK:∀c v,s'.heap.IsCell c v->h''.IsCell c v:=λc v ⟨o,e,d⟩=>by
  by_cases hb:c∈frs (X.env::X.outer)
  .
   obtain⟨sl,e2⟩:=k2 c o hb e
   exact⟨_,e2,d⟩
  .
   exact⟨o,k1 c o hb (λ_ _ vs q=>by rw[d]at q;cases q) e,d⟩
 have hlm:X.env.locals∈frs (X.env::X.outer):=by unfold frs;rw[aa0,hf];exact aah
 obtain⟨m,hn,hlk⟩:=I.loc
 refine⟨I.ok,I.os,I.bare,hex▸u,⟨m,?_,λi y v h1 h2 h3=>?_⟩,λy c e=>?_,I.free,I.dJ,λp hp2=>?_,k,I.len⟩
 .
  obtain⟨o,es,ep,e,d,r⟩:=hn
  obtain⟨sl,e2⟩:=k2 _ o hlm e
  exact⟨_,es,ep,e2,d,r⟩
 .
  obtain⟨u,r,q⟩:=hlk i y v h1 h2 h3
  refine⟨u,r,q.imp id λ⟨q1,c,q2,q3⟩=>⟨q1,c,q2,cellK c _ q3⟩⟩
 .
  obtain⟨v,q⟩:=I.cell y c e
  exact⟨v,cellK c v q⟩
 .
  rw[hp]at hp2;cases hp2
end
theorem FH{P:Program}{w:World}{K:Frag}{mg:Str->Option Value}{base:Heap}{N:List Str}{qual:Str}{scope:Scope}{f:Addr}{cd:Value}{A:Around}{outer:List Env}{s:Shared}{H:Hp}{E:XK}{ah:List (Addr×Obj)}{σ:Sg}{H':Hp}{s':Shared}{x C:Addr}
  (I:L2.Inv (fL (Dr P w) P w K mg base N qual scope f cd A outer s H E) ah σ H' s') (fl:uD s.heap x C H' s'.heap) (hE:E (.ref C) none H'):(fL (Dr P w) P w K mg base N qual scope f cd A outer s H E).xe (.ref x) s':=
 rE I rfl rfl rfl fl λs'' ⟨y,D,H2,e,h1,h2,h3,h4,h5,e1,e2,e3⟩=>by
  cases e;cases e1;subst e3
  exact⟨x,C,H2,rfl,h1,h2,h3,h4,h5,hE⟩
def Acc(X:Cx)(z:Z)(g':G)(M:List Addr)(H:Hp)(C:Addr)(σ:Sg):Prop:=
 ∀ah s1 H1 aM M1 x,L2.Inv X ah σ H1 s1->S z g' σ aM M1 H1->au M H M1 H1->uD X.s₀.heap x C H1 s1.heap->X.xe (.ref x) s1
def Bs(X:Cx)(z:Z)(g':G)(M:List Addr)(H:Hp)(C:Addr):Prop:=∀σ,Acc X z g' M H C σ
theorem Acc.trans(st:au M H M1 H1)(h:Acc X z g' M H C σ):Acc X z g' M1 H1 C σ:=λah s1 H2 aM M2 x I s st' fl=>h ah s1 H2 aM M2 x I s (st.trans st') fl
theorem Bs.trans(st:au M H M1 H1)(h:Bs X z g' M H C):Bs X z g' M1 H1 C:=λσ=>(h σ).trans st
noncomputable def FJ(X:Cx)(z:Z)(e:Expr)(g:G)(C:Addr)(g':G):Prop:=∃t,PE X e t/\∀σ As M H Q,S z g σ As M H->Acc X z g' M H C σ->t σ H Q
def U3(X:Cx)(z:Z)(e:Expr)(g:G)(C:Addr)(g':G):Prop:=∃t,PT X e t/\∀σ As M H Q,S z g σ As M H->Acc X z g' M H C σ->t σ H Q
noncomputable def WQ(X:Cx)(z:Z)(es:List Expr)(g:G)(C:Addr)(g':G):Prop:=∃t,PA X es t/\∀σ As M H Q,S z g σ As M H->Acc X z g' M H C σ->t σ H Q
noncomputable def Rh(X:Cx)(z:Z)(st:Stmt)(g:G)(C:Addr)(g':G):Prop:=∃t,PS X st t/\∀σ As M H E,S z g σ As M H->Bs X z g' M H C->t E σ H
noncomputable def Ku(X:Cx)(z:Z)(jk:List Stmt)(g:G)(C:Addr)(g':G):Prop:=∃t,su X jk t/\∀σ As M H E,S z g σ As M H->Bs X z g' M H C->t E σ H
section
variable{X:Cx}{z:Z}{g g' g1 g2:G}{C:Addr}{pos p:Pos}{a b e:Expr}{es:List Expr}{st:Stmt}{jk:List Stmt}
theorem aA.lift(h:aA X.mj z e g r g'):aA X z e g r g':=let ⟨t,q,k⟩:=h;⟨t,q.mj,k⟩
theorem cz.lift(h:cz X.mj z e g v g'):cz X z e g v g':=let ⟨t,q,k⟩:=h;⟨t,q.mj,k⟩
theorem Ri(h:FJ X z e g C g')(he:∀whole,isTrue e X.env whole=(do let v <- whole;standAt e.pos;holding [v] (truthy v))):U3 X z e g C g':=by
 obtain⟨t,q,k⟩:=h
 exact⟨_,O8 q he,λσ As M H Q s ac=>k σ As M H _ s ac⟩
theorem Kv(h:U3 X z a g C g'):U3 X z (.UnaryOp .Not a pos) g C g':=by
 obtain⟨t,q,k⟩:=h
 exact⟨_,DP q,λσ As M H Q s ac=>k σ As M H _ s ac⟩
theorem Kw(h:FJ X z e g C g')(hs:starEach (e::es) X.env=(false,eval e X.env)::starEach es X.env):WQ X z (e::es) g C g':=by
 obtain⟨t,q,k⟩:=h
 have pn:PA X es (λ_ _ _=>False):=λ_ _ _ _ _ _ _ h=>h.elim
 exact⟨_,bG q pn hs,λσ As M H Q s ac=>k σ As M H _ s ac⟩
theorem Ky(h1:aA X z e g r g1)(h:WQ X z es g1 C g')(hs:starEach (e::es) X.env=(false,eval e X.env)::starEach es X.env):WQ X z (e::es) g C g':=by
 obtain⟨t1,q1,k1⟩:=h1
 obtain⟨t,q,k⟩:=h
 exact⟨_,bG q1 q hs,λσ As M H Q s ac=>k1 σ As M H _ s λv H1 aM M1 s1 cO R1=>k σ aM M1 H1 _ s1 (ac.trans cO)⟩
theorem Rj(h:FJ X z e g C g'):Rh X z (.Return (some e) pos) g C g':=by
 obtain⟨t,q,k⟩:=h
 exact⟨_,wO q,λσ As M H E s ac=>k σ As M H _ s (ac σ)⟩
theorem Kz(h:FJ X z e g C g')(hs:swapsWith e none pos.line X.env=pure false):Rh X z (.Expr e pos) g C g':=by
 obtain⟨t,q,k⟩:=h
 exact⟨_,sD q hs,λσ As M H E s ac=>k σ As M H _ s (ac σ)⟩
theorem Rk(h:U3 X z c g C g'):Rh X z (.If c x y pos) g C g':=by
 obtain⟨t,q,k⟩:=h
 exact⟨_,n8 q bu bu,λσ As M H E s ac=>k σ As M H _ s (ac σ)⟩
theorem FN(h1:cz X z c g v g1)(h:Ku X z (if v then x else y) g1 C g'):Rh X z (.If c x y pos) g C g':=by
 obtain⟨t1,q1,k1⟩:=h1
 obtain⟨t,q,k⟩:=h
 cases v with
 |true=>exact⟨_,n8 q1 q bu,λσ As M H E s ac=>k1 σ As M H _ s λH' aB M' s' st=>lg (k σ aB M' H' _ s' (ac.trans st))⟩
 |false=>exact⟨_,n8 q1 bu q,λσ As M H E s ac=>k1 σ As M H _ s λH' aB M' s' st=>qA (k σ aB M' H' _ s' (ac.trans st))⟩
theorem KC(h:Rh X z st g C g'):Ku X z (st::jk) g C g':=by
 obtain⟨t,q,k⟩:=h
 exact⟨_,eH q bu,λσ As M H E s ac=>k σ As M H _ s ac⟩
theorem KD(h1:fU X z st g .nx g1)(h:Ku X z jk g1 C g'):Ku X z (st::jk) g C g':=by
 obtain⟨t1,q1,k1⟩:=h1
 obtain⟨t,q,k⟩:=h
 exact⟨_,eH q1 q,λσ As M H E s ac=>k1 σ As M H _ s λσ' aB M' H' s' st'=>k σ' aB M' H' E s' (ac.trans st')⟩
end
noncomputable def SpX(K:Frag)(N:List Str)(np:Nat)(run:List Nat->G->Addr->G->Prop):Sp:=λvs H _ E=>
 vs.length=np/\∃(z:Z) (g g':G) (As M:List Addr) (C:Addr),z.K=K/\S z g (L2.start N vs) As M H/\run z.bor g C g'/\∀σ' aB M' H',S z g' σ' aB M' H'->au M H M' H'->E (.ref C) none H'
section
variable{X:Cx}{z:Z}{g g1 gs gc gO:G}{k:Nat}{f:Addr}{fd:FuncData}{ps N:List Str}{x:Str}{p pos:Pos}{e:Expr}{es:List Expr}{rs:List R}{C:Addr}{run:List Nat->G->Addr->G->Prop}
theorem Rl{P:Program}{w:World}{K:Frag}{mg:Str->Option Value}{base:Heap}{qual:Str}{st:Stmt}(F:Jd K x qual st f fd)(Sc:bV N ps (aD st))
  (h:∀(bB:Value) (A:Around) (outer:List Env) (s:Shared) (H:Hp) (E:XK),PySem.W.codeIn K bB qual=true->cu k (A.deeper (envOfC qual (aD st) s⁻¹ f bB))->
   ∀(z:Z) (g:G) (C:Addr) (g':G),z.K=K->run z.bor g C g'->Ku (fL (Dr P w) P w K mg base N qual (aD st) f bB A outer s H E) z (cD st) g C g') :
  iW P w K mg base (Dr P w) (k+1) f fd ps (SpX K N ps.length run):=by
 obtain⟨oc,od,kV,doc,pm,an,bB,ct,osl,rfl,lk,bD⟩:=F.ex
 refine NR lk bD Sc (λvs H Q E q=>q.1) λA outer s H vs Q E hr ⟨_,z,g,g',As,M,C,hK,hs,hrun,hQ⟩=>?_
 obtain⟨t,q,kk⟩:=h bB A outer s H E bD hr z g C g' hK hrun
 exact⟨t,q,kk _ As M H _ hs λσ ah s1 H1 aM M1 y I s' st' fl=>FH I fl (hQ σ aM M1 H1 s' st')⟩
theorem KH(F:iW X.prog X.w X.K X.mg X.base (Dr X.prog X.w) k f fd ps (SpX X.K N ps.length run))(hK:z.K=X.K)(hex:X.ex=[])(hr:cu k X.A)(hg:Gl X x)(hm:X.mg x=some (.ref f))(hk:PySem.W.keepIn X.K (.ref f)=true)(hb:L2.Binds X.K fd ps [])
  (ha:cG X z (e::es) g rs g1) (aL:rs.length=ps.length) (hl:bQ rs g1=some gs) (nd:((vars 0 rs).map (·.2)).Nodup) (hrun:run ((vars 0 rs).map (·.1)) (cT N.length gs) C gc) (Fd:back (vars 0 rs) gc g1=some gO)
  (jy:(x==("__debug__" : Str))=false) (he:starEach (e::es) X.env=(false,eval e X.env)::starEach es X.env) (iu:(backTo pos (starEach es X.env)).any (·.1)=false) :
  FJ X z (.Call (.Name x p) (e::es) [] pos) g C gO:=by
 refine⟨λσ H Q=>∃As M,S z g σ As M H/\Acc X z gO M H C σ,λah s σ H Q I ⟨As,M,hs,ac⟩=>?_,λσ As M H Q s ac=>⟨As,M,s,ac⟩⟩
 refine abd (fE I hg hm ?_ jy)
 refine abS (h₀:=X.base) I.ok.mod.Dl hk (ha.run (pos:=pos) I hs λvs us s1 H1 aM M1 I1 r1 q1 q2 R1=>⟨I1.nh,?_⟩) he iu
 have hv:vs.length=rs.length:=R1.length
 have hl2:(us++[]).length=ps.length:=by rw[aaV,<- r1.length,hv,aL]
 have ee:=q1.enter (N:=N) R1 hl nd
 refine wpAny_call (acr (F.run X.A X.stack s1 H1 ⟨us,[]⟩ (us++[]) (vs++[]) (λ_ _=>False) (λcls _ H'=>cls=.ref C/\∃bw M2,S z gO σ bw M2 H'/\au M H M2 H') hr I1.Jw (hb s1 us I1.nh hl2) (by rw[aaV,aaV];exact r1) ?_) λr s' hq=>?_)
 .
  rw[aaV]
  refine⟨by rw[hv,aL],rz z σ M1 H1 rs,cT N.length gs,gc,_,M1,C,hK,ee,by rw[lA];exact hrun,λσ' aB M' H' s' st'=>⟨rfl,?_⟩⟩
  obtain⟨M2,s2,aU,_⟩:=q1.leave (r:=.dat .non) (v:=.non) R1 hl nd s' st' .non Fd rfl
  exact⟨aM,M2,s2,q2.trans aU⟩
 .
  cases r with
  |error ev=>
   have hq:Dr X.prog X.w X.stack H1 s1 (λcls _ H'=>cls=.ref C/\∃bw M2,S z gO σ bw M2 H'/\au M H M2 H') ev s':=hq
   obtain⟨y,C',H',rfl,I',fl,hC,bw,M2,s2,aU⟩:=FG hex I1 hq
   cases hC
   exact ac ah s' H' bw M2 y I' s2 aU fl
  |ok flw=>
   cases flw with
   |ret u=>
    have hq:CE X.stack X.prog X.w H1 s1 (λ_ _=>False) u s':=hq
    obtain⟨_,_,_,_,_,_,_,q⟩:=hq;exact q.elim
   |next=>exact False.elim hq
   |brk=>exact False.elim hq
   |cont=>exact False.elim hq
end
noncomputable def veM:List Value:=[.type "ValueError",.type "Exception",.type "BaseException",.type "object"]
abbrev eL(K:Frag)(C:Addr):Prop:=PySem.W.excIn K C veM "ValueError.__new__" = true
theorem tF{K:Frag}{h:Heap}{C:Addr}(X:K.In h)(q:eL K C) :
  ∃bm N nm qn bs hdct sn sub ab col dd k0 k1 k2 k3 k5 mN,h.get? C=some (excClassObj nm qn C N bs bm hdct sn sub ab col dd k0 k1 k2 k3 k5 "ValueError.__new__")/\h.Ns N mN/\mN "__init__" = none/\OwnTail h veM bm:=by
 unfold eL PySem.W.excIn at q
 split at q
 .
  rename_i dd cd sl ho
  split at q
  .
   rename_i C' bm k0 k1 k2 k3 n k5 hm hs
   simp only[aao,beq_iff_eq,aco]at q
   obtain⟨⟨⟨⟨⟨rfl,rfl⟩,WR⟩,ht⟩,hok⟩,hni⟩:=q
   obtain⟨nm,bs,mro,ns,qn,hd,sn,sub,ab,col,del⟩:=cd
   dsimp only at hm WR hok hni
   subst hm WR
   have hsl:sl = #[k0,k1,k2,k3,some (.builtin "ValueError.__new__"),k5]:=by
    obtain⟨l⟩:=sl
    simp only at hs
    rw[hs]
   subst hsl
   exact⟨bm,ns,nm,qn,bs,hd,sn,sub,ab,col,dd,k0,k1,k2,k3,k5,_,X _ _ ho,.of_isNs (PySem.W.isNs_of_in X hok),PySem.W.nsMap_none_of_in X hok hni,PySem.W.tail_of_in X ht⟩
  .
   cases q
 .
  cases q
theorem uX(x:dc P w H h a o):∃ob,h.get? a=some ob:=by
 induction o with
 |lst xs=>obtain⟨_,_,_,_,e⟩:=x;exact⟨_,e⟩
 |tup xs=>obtain⟨_,_,_,ob,e,_⟩:=x;exact⟨_,e⟩
 |dK jz=>obtain⟨_,_,_,_,o,_,_,e,_⟩:=x;exact⟨_,e⟩
 |dT jz=>obtain⟨_,_,_,_,o,_,_,e,_⟩:=x;exact⟨_,e⟩
 |set S n=>obtain⟨o,_,_,_,e,_⟩:=x;exact⟨_,e⟩
 |ins C dx fs=>obtain⟨_,_,_,e,_⟩:=x;exact⟨_,e⟩
 |own y=>exact x
 |xd fs=>obtain⟨mA,⟨o,_,_,e,_⟩,_⟩:=x;exact⟨_,e⟩
 |Ym lo hi=>obtain⟨_,_,_,e⟩:=x;exact⟨_,e⟩
 |gG o u ih=>exact⟨_,x.1⟩
 |kW ps=>exact⟨_,x⟩
 |met f y=>exact⟨_,x⟩
 |ext φ=>exact x.2.1
section
variable{X:Cx}{z:Z}{g g1:G}{C:Addr}{x:Str}{np aG pos:Pos}{m:Expr}{d:D}
theorem FP(hc:X.calm=true)(hex:X.ex=[])(hq:eL X.K C)(hg:Gl X x)(hm:X.mg x=some (.ref C))(jy:(x==("__debug__" : Str))=false)(ha:cG X z [m] g [.dat d] g1)(hs:starEach [m] X.env=[(false,eval m X.env)]) :
  Rh X z (.Raise (some (.Call (.Name x np) [m] [] aG)) none pos) g C g1:=by
 refine⟨λ_ σ H=>∃As M,S z g σ As M H/\Bs X z g1 M H C,λah s σ H E I ⟨As,M,st,ac⟩=>?_,λσ As M H E s ac=>⟨As,M,s,ac⟩⟩
 obtain⟨bm,N,nm,qn,bs,hdct,sn,sub,ab,col,dd,k0,k1,k2,k3,k5,mN,hC,hN,hni,T⟩:=tF I.ok.mod.Dl hq
 refine wpAny_Raise_call_subU (Bn:= "ValueError") (C:=C) (nm:=nm) (q:=qn) (N:=N) (bs:=bs) (bm:=bm) (hdct:=hdct) (sn:=sn) (sub:=sub) (ab:=ab) (col:=col) (dd:=dd) (k0:=k0) (k1:=k1) (k2:=k2) (k3:=k3) (k5:=k5) PySem.F.excBase_ValueError (by decide) PySem.F.excBase_ValueError (T.hasType (by decide)) (I.ok.hd hc) (by rw[hs];rfl) hni (fE I hg hm ⟨rfl,?_⟩ jy)
 rw[hs]
 refine Calls.evalArgs_plain (x:=eval m X.env) (rest:=[]) ?_
 have e1:spliced ((false,eval m X.env)::[])=spliced (backTo aG (starEach [m] X.env)):=by rw[hs];rfl
 rw[e1]
 refine (ha.run I st λvs us s1 H1 aM M1 I1 r1 q1 q2 R1=>?_)
 refine⟨rfl,?_,I1.bk _ _ hC,hN.keeps I1.bk,T.keeps I1.bk,λh' e YK=>?_⟩
 .
  show us.length<=sizeLine
  have:=r1.length
  rw[R1.length]at this
  rw[<- this,aaY]
  exact (by decide:(1:Nat)<=16777216)
 .
  have I2:L2.Inv X ah σ H1 { s1 with heap:=h'}:=I1.kept (t':=s1.toks) YK.keeps
  have ji:H1 e=none:=by
   cases q:H1 e with
   |none=>rfl
   |some o=>
    obtain⟨ob,ho⟩:=uX (I1.hok e o q)
    have hn:=YK.new
    rw[ho]at hn;cases hn
  refine ac σ ah _ H1 aM M1 e I2 q1 q2 ?_
  obtain⟨t,ht,_,_⟩:=YK.there
  refine⟨⟨_,_,ht,rfl,rfl,rfl,by simp,.inl (by simp)⟩,?_,ji⟩
  cases q:X.s₀.heap.get? e with
  |none=>rfl
  |some o=>
   obtain⟨ob,ho⟩:=I1.base.there e o q (by rw[hex];simp)
   have hn:=YK.new
   rw[ho]at hn;cases hn
end
section
variable{X:Cx}{z:Z}{pos:Pos}
inductive uY(X:Cx)(z:Z):Str->List Expr->G->Str->G->Prop
 |nil {out:Str}{g:G}:uY X z out [] g out g
 |con {out y r:Str}{j:Nat}{p:Pos}{es:List Expr}{g g':G}:(out++y).length<=16777216->uY X z (out++y) es g r g'->uY X z out (.Constant (.str y) j p::es) g r g'
 |int {out r:Str}{i:Int}{v:Expr}{p:Pos}{es:List Expr}{g g1 g':G}:aA X z v g (.dat (.int i)) g1->i.natAbs.log2<1920->(out++(toString i:Str)).length<=16777216->uY X z (out++(toString i:Str)) es g1 r g'->uY X z out (.FormattedValue v (-1) none p::es) g r g'
theorem Rm(h:uY X z out es g r g'):out.length<=16777216->∀(ah:List (Addr×Obj)) (s:Shared) (σ:Sg) (As M:List Addr) (H:Hp) (Post:Value->Shared->Prop),L2.Inv X ah σ H s->S z g σ As M H->
  (∀t s1 H1 aM M1,L2.Inv X ah σ H1 s1->S z g' σ aM M1 H1->au M H M1 H1->Post (.str r t) s1)->wpAny (model X.prog X.w) X.A (joinParts out (evalEach es X.env)) Post X.xe s:=by
 induction h with
 |@nil out g=>
  intro hl ah s σ As M H Post I st k
  exact joinParts_nil (k _ _ H As M (I.tok _) st (au.refl _ _)) (jl hl)
 |@con out y r j p es g g' hl' _ ih=>
  intro hl ah s σ As M H Post I st k
  show wpAny _ _ (joinParts out (eval (.Constant (.str y) j p) X.env::evalEach es X.env)) _ _ s
  refine joinParts_cons (Calls.Constant_str ⟨jl hl',?_⟩)
  exact ih hl' ah _ σ As M H Post (I.tok _) st k
 |@int out r i v p es g g1 g' he hd hl' _ ih=>
  intro hl ah s σ As M H Post I st k
  show wpAny _ _ (joinParts out (eval (.FormattedValue v (-1) none p) X.env::evalEach es X.env)) _ _ s
  refine joinParts_cons (FormattedValue_plain (he.run I st λw u s1 H1 aM M1 I1 r1 q1 q2 q3=>?_))
  have Bc:Rep z.K M1 H1 (.int i) w:=q3
  cases Bc
  obtain⟨t,rfl⟩:=r1
  refine formatField_int_small hd ?_
  exact⟨jl hl',ih hl' ah _ σ aM M1 H1 Post (I1.tok _) q1 λt s2 H2 bw M2 I2 p1 p2=>k t s2 H2 bw M2 I2 p1 (q2.trans p2)⟩
theorem nL(h:uY X z Str.empty (e1::e2::es) g r g'):aA X z (.JoinedStr (e1::e2::es) pos) g (.dat (.str r)) g':=
 aA.of λah s σ As M H Post I st k=>JoinedStr_many (Rm h (by decide) ah s σ As M H Post I st λt s1 H1 aM M1 I1 q1 q2=>k (.str r) (.str r t) s1 H1 aM M1 I1 ⟨t,rfl⟩ q1 q2 (.str r))
end
section
variable{X:Cx}{z:Z}{g g' g1 g2:G}{C:Addr}{pos p:Pos}{a b e:Expr}{es:List Expr}{st:Stmt}{jk:List Stmt}
theorem FQ(F:iW X.prog X.w X.K X.mg X.base uB k f fd ps sp)(h:WQ X z (e::es) g C g')(hr:cu k X.A)(hg:Gl X x)(hm:X.mg x=some (.ref f))(hk:PySem.W.keepIn X.K (.ref f)=true)(hb:L2.Binds X.K fd ps [])
  (jy:(x==("__debug__" : Str))=false) (he:starEach (e::es) X.env=(false,eval e X.env)::starEach es X.env) (iu:(backTo pos (starEach es X.env)).any (·.1)=false):FJ X z (.Call (.Name x p) (e::es) [] pos) g C g':=by
 obtain⟨t,q,kk⟩:=h
 exact⟨_,yU F hr hg hm hk hb .nil NT q jy he iu,λσ As M H Q s ac=>kk σ As M H _ s ac⟩
variable{body:List Stmt}{T:Tg}{items:List D}{tg iter:Expr}
end
open PySem PySem.W PyProof.Rows
noncomputable def g9{α:Type}(lt:Nat->Nat->Bool):KasT α->α
 |.ret a=>a
 |.ask i j k=>g9 lt (k (lt i j))
theorem eE{α β:Type}(lt:Nat->Nat->Bool)(f:α->KasT β):∀t:KasT α,g9 lt (t.bind f)=g9 lt (f (g9 lt t))
 |.ret _=>rfl
 |.ask i j k=>eE lt f (k (lt i j))
structure jD(α:Type) where
 lt:α->α->Bool
 irr:∀a,lt a a=false
 tr:∀a b c,lt a b=true->lt b c=true->lt a c=true
 tot:∀a b,lt a b=false->lt b a=false->a=b
namespace jD
variable{α:Type}(O:jD α)
def le(a b:α):Prop:=O.lt b a=false
variable{O}
theorem le_refl(a:α):O.le a a:=O.irr a
theorem le_of_lt(h:O.lt a b=true):O.le a b:=by
 unfold le
 cases e:O.lt b a
 .
  rfl
 .
  have:=O.tr _ _ _ h e;rw[O.irr]at this;cases this
theorem rF(h1:O.le a b)(h2:O.le b c):O.le a c:=by
 unfold le at *
 cases e:O.lt c a with
 |false=>rfl
 |true=>
  exfalso

  cases e1:O.lt a b with
  |true=>have:=O.tr _ _ _ e e1;rw[h2]at this;cases this
  |false=>
   have hab:=O.tot a b e1 h1
   subst hab
   rw[h2]at e;cases e
theorem zz(h1:O.le a b)(h2:O.le b a):a=b:=O.tot a b h2 h1
end jD
section
variable{α:Type}{O:jD α}{key:Nat->α}
noncomputable def dG(key:Nat->α)(p:Array Nat)(i:Nat):α:=key (p.getD i 0)
def iZ(O:jD α)(key:Nat->α)(p:Array Nat)(n:Nat):Prop:=∀i j,i<=j->j<n->O.le (dG key p i) (dG key p j)
def iH(O:jD α)(key:Nat->α)(p:Array Nat)(n:Nat):Prop:=∀i j,i<=j->j<n->O.le (dG key p j) (dG key p i)
noncomputable def nM(O:jD α)(key:Nat->α)(i j:Nat):Bool:=O.lt (key i) (key j)
theorem getD_some{p q:Array Nat}{i j:Nat}(h:p[i]?=q[j]?):p.getD i 0=q.getD j 0:=by
 rw[abr,abr,h]
theorem nO{p:Array Nat}{i j:Nat}(hj:j<=p.size)(k:Nat):dG key (kas_rev p i j) k=if i<=k/\k<j then dG key p (i+j - 1 - k)else dG key p k:=by
 have e:=getElem?_mirror_all (i:=i) hj k
 unfold dG kas_rev
 split
 .
  rename_i h;rw[aav h]at e;rw[getD_some e]
 .
  rename_i h;rw[aau h]at e;rw[getD_some e]
theorem KJ{p:Array Nat}{src d:Nat}(hs:src<p.size)(hd:d<=src)(k:Nat):dG key (bubble p src d) k=if k=src - d then dG key p src else if src - d<k/\k<=src then dG key p (k - 1)else dG key p k:=by
 have e:=getElem?_bubble hs d hd k
 unfold dG
 by_cases h1:k=src - d
 .
  rw[aav h1]at e ⊢;rw[getD_some e]
 .
  rw[aau h1]at e ⊢
  by_cases h2:src - d<k/\k<=src
  .
   rw[aav h2]at e ⊢;rw[getD_some e]
  .
   rw[aau h2]at e ⊢;rw[getD_some e]
theorem iZ.ext(h:iZ O key p n)(hl:O.lt (dG key p n) (dG key p (n - 1))=false)(h1:1<=n):iZ O key p (n+1):=by
 intro i j hij hj
 by_cases e:j<n
 .
  exact h i j hij e
 .
  have:j=n:=by lia
  subst this
  by_cases e2:i=j
  .
   subst e2;exact jD.le_refl _
  .
   exact jD.rF (h i (j - 1) (by lia) (by lia)) hl
theorem xG:∀(f n:Nat),1<=n->iZ O key p n->∃m,g9 (nM O key) (kas_asc p f n)=m/\n<=m/\m<=n+f/\iZ O key p m/\(m<n+f->O.lt (dG key p m) (dG key p (m - 1))=true)
 | 0,n,_,h=>⟨n,rfl,aal _,aal _,h,λz=>absurd z (aa7 _)⟩
 |f+1,n,h1,h=>by
  unfold kas_asc
  show ∃m,g9 (nM O key) (if nM O key (p.getD n 0) (p.getD (n - 1) 0)=true then KasT.ret n else kas_asc p f (n+1))=m/\_
  cases e:nM O key (p.getD n 0) (p.getD (n - 1) 0)with
  |true=>exact⟨n,rfl,aal _,by lia,h,λ_=>e⟩
  |false=>
   obtain⟨m,q1,q2,q3,q4,q5⟩:=xG f (n+1) (by lia) (h.ext e h1)
   exact⟨m,q1,by lia,by lia,q4,λz=>q5 (by lia)⟩
theorem iH.ext(h:iH O key p n)(hl:O.le (dG key p n) (dG key p (n - 1)))(h1:1<=n):iH O key p (n+1):=by
 intro i j hij hj
 by_cases e:j<n
 .
  exact h i j hij e
 .
  have:j=n:=by lia
  subst this
  by_cases e2:i=j
  .
   subst e2;exact jD.le_refl _
  .
   exact jD.rF hl (h i (j - 1) (by lia) (by lia))
theorem iH.Ro(h:iH O key p n)(hk:∀k,dG key p' k=dG key p k):iH O key p' n:=λi j a b=>by rw[hk,hk];exact h i j a b
def WT(key:Nat->α)(p:Array Nat)(n q:Nat):Prop:=q+1<=n/\∀k,n - (q+1)<=k->k<n->dG key p k=dG key p (n - 1)
theorem zA(h:WT key p n q)(hz:n<=p.size)(k:Nat):dG key (kas_rev p (n - (q+1)) n) k=dG key p k:=by
 rw[nO hz]
 split
 .
  rename_i hk
  have hq:=h.1
  rw[h.2 k hk.1 hk.2,h.2 (n - (q+1)+n - 1 - k) (by lia) (by lia)]
 .
  rfl
theorem nP:∀(f:Nat) (p:Array Nat) (n q:Nat),1<=n->n+f<=p.size->iH O key p n->WT key p n q->
  ∃p' m q',g9 (nM O key) (kas_desc f p n q)=(p',m,q')/\p'.Perm p/\n<=m/\m<=n+f/\iH O key p' m/\WT key p' m q'
 | 0,p,n,q,_,_,h,hq=>⟨p,n,q,rfl,acd _,aal _,aal _,h,hq⟩
 |f+1,p,n,q,h1,hz,h,hq=>by
  unfold kas_desc
  show ∃p' m q',g9 (nM O key) (if nM O key (p.getD n 0) (p.getD (n - 1) 0)=true then (if q > 0 then kas_desc f (kas_rev p (n - (q+1)) n) (n+1) 0 else kas_desc f p (n+1) 0)
   else .ask (p.getD (n - 1) 0) (p.getD n 0) λd=>if d=true then .ret (p,n,q)else kas_desc f p (n+1) (q+1))=(p',m,q')/\_
  cases e:nM O key (p.getD n 0) (p.getD (n - 1) 0)with
  |true=>
   rw[aav rfl]
   have hl:O.le (dG key p n) (dG key p (n - 1)):=jD.le_of_lt e
   have one:∀p':Array Nat,WT key p' (n+1) 0:=λp'=>⟨by lia,λk a b=>by have:k=n:=(by lia);subst this;rfl⟩
   by_cases hq0:q > 0
   .
    rw[aav hq0]
    have hk:=zA hq (by lia:n<=p.size)
    have hF:iH O key (kas_rev p (n - (q+1)) n) (n+1):=(h.ext hl h1).Ro hk
    obtain⟨p',m,q',r1,r2,r3,r4,r5,r6⟩:=nP f (kas_rev p (n - (q+1)) n) (n+1) 0 (by lia) (by rw[kas_rev_size];lia) hF (one _)
    exact⟨p',m,q',r1,r2.trans (mirror_perm _ _ _ _),by lia,by lia,r5,r6⟩
   .
    rw[aau hq0]
    obtain⟨p',m,q',r1,r2,r3,r4,r5,r6⟩:=nP f p (n+1) 0 (by lia) (by lia) (h.ext hl h1) (one _)
    exact⟨p',m,q',r1,r2,by lia,by lia,r5,r6⟩
  |false=>
   rw[aau aaF]
   show ∃p' m q',g9 (nM O key) (if nM O key (p.getD (n - 1) 0) (p.getD n 0)=true then .ret (p,n,q)else kas_desc f p (n+1) (q+1))=(p',m,q')/\_
   cases e2:nM O key (p.getD (n - 1) 0) (p.getD n 0)with
   |true=>exact⟨p,n,q,rfl,acd _,aal _,by lia,h,hq⟩
   |false=>
    rw[aau aaF]
    have he:dG key p n=dG key p (n - 1):=O.tot _ _ e e2
    have hq':WT key p (n+1) (q+1):=⟨by have:=hq.1;lia,λk a b=>by
     show dG key p k=dG key p n
     by_cases hk:k=n
     .
      subst hk;rfl
     .
      rw[he];exact hq.2 k (by lia) (by lia)⟩
    obtain⟨p',m,q',r1,r2,r3,r4,r5,r6⟩:=nP f p (n+1) (q+1) (by lia) (by lia) (h.ext (by rw[he];exact jD.le_refl _) h1) hq'
    exact⟨p',m,q',r1,r2,by lia,by lia,r5,r6⟩
theorem FT(h:iH O key p n)(hz:n<=p.size):iZ O key (kas_rev p 0 n) n:=λi j a b=>by
 rw[nO hz,nO hz,aav ⟨by lia,by lia⟩,aav ⟨by lia,by lia⟩]
 exact h _ _ (by lia) (by lia)
theorem uZ(h1:1<=n)(hn:n<=nrem)(hz:nrem<=p.size)(h:iH O key p n):∃m p',g9 (nM O key) (kas_tail3 n nrem p)=(m,p')/\p'.Perm p/\1<=m/\m<=nrem/\iZ O key p' m:=by
 unfold kas_tail3
 rw[eE]
 obtain⟨m,q1,q2,q3,q4,_⟩:=xG (O:=O) (key:=key) (p:=kas_rev p 0 n) (nrem - n) n h1 (FT h (by lia))
 rw[q1]
 exact⟨m,_,rfl,mirror_perm _ _ _ _,by lia,by lia,q4⟩
theorem mH(h1:1<=n)(hn:n+1<=nrem)(hz:nrem<=p.size)(h:iH O key p (n+1)):∃m p',g9 (nM O key) (kas_descPart n nrem p)=(m,p')/\p'.Perm p/\1<=m/\m<=nrem/\iZ O key p' m:=by
 unfold kas_descPart
 rw[eE]
 obtain⟨p',m,q',r1,r2,r3,r4,r5,r6⟩:=nP (O:=O) (key:=key) (nrem - (n+1)) p (n+1) 0 (by lia) (by lia) h ⟨by lia,λk a b=>by have:k=n:=(by lia);subst this;rfl⟩
 rw[r1]
 dsimp only
 have hs:p'.size=p.size:=r2.size_eq
 by_cases hq:q' > 0
 .
  rw[aav hq]
  have hk:=zA r6 (by lia:m<=p'.size)
  obtain⟨m',p2,s1,s2,s3,s4,s5⟩:=uZ (nrem:=nrem) (by lia) (by lia) (by rw[kas_rev_size];lia) (r5.Ro hk)
  exact⟨m',p2,s1,(s2.trans (mirror_perm _ _ _ _)).trans r2,s3,s4,s5⟩
 .
  rw[aau hq]
  obtain⟨m',p2,s1,s2,s3,s4,s5⟩:=uZ (nrem:=nrem) (by lia) (by lia) (by lia) r5
  exact⟨m',p2,s1,s2.trans r2,s3,s4,s5⟩
theorem FW(h1:1<=n)(hz:n<=p.size):∃m p',g9 (nM O key) (kas_count n p)=(m,p')/\p'.Perm p/\1<=m/\m<=n/\iZ O key p' m:=by
 unfold kas_count
 rw[eE]
 obtain⟨m,q1,q2,q3,q4,q5⟩:=xG (O:=O) (key:=key) (p:=p) (n - 1) 1 (aal _) (λi j a b=>by have e1:i=0:=(by lia);have e2:j=0:=(by lia);subst e1;subst e2;exact jD.le_refl _)
 rw[q1]
 by_cases e1:(m==n)=true
 .
  rw[aav e1]
  exact⟨m,p,rfl,acd _,q2,by lia,q4⟩
 .
  rw[aau e1]
  have hm:m<n:=by
   have:m≠n:=λz=>e1 (by rw[z];exact acz _)
   lia
  have uz:=q5 (by lia)
  by_cases e2:m > 1
  .
   rw[aav e2]
   show ∃m' p',g9 (nM O key) (if nM O key (p.getD 0 0) (p.getD (m - 1) 0)=true then KasT.ret (m,p)else kas_descPart m n (kas_rev p 0 m))=(m',p')/\_
   cases e3:nM O key (p.getD 0 0) (p.getD (m - 1) 0)with
   |true=>exact⟨m,p,rfl,acd _,q2,by lia,q4⟩
   |false=>
    rw[aau aaF]
    have YL:∀k,k<m->dG key p k=dG key p (m - 1):=λk hk=>by
     refine jD.zz (O:=O) (q4 k (m - 1) (by lia) (by lia)) ?_
     exact jD.rF (show O.le (dG key p (m - 1)) (dG key p 0)from e3) (q4 0 k (by lia) hk)
    have hk:∀k,dG key (kas_rev p 0 m) k=dG key p k:=λk=>by
     rw[nO (by lia)]
     split
     .
      rw[YL _ (by lia),YL k (by lia)]
     .
      rfl
    have hF:iH O key (kas_rev p 0 m) (m+1):=by
     refine iH.Ro (p:=p) (iH.ext (λi j a b=>?_) (jD.le_of_lt uz) (by lia)) hk
     rw[YL i (by lia),YL j b];exact jD.le_refl _
    obtain⟨m',p2,s1,s2,s3,s4,s5⟩:=mH (O:=O) (key:=key) (p:=kas_rev p 0 m) q2 (by lia:m+1<=n) (by rw[kas_rev_size];exact hz) hF
    exact⟨m',p2,s1,s2.trans (mirror_perm _ _ _ _),s3,s4,s5⟩
  .
   rw[aau e2]
   have hF:iH O key p (m+1):=iH.ext (λi j a b=>by have e1:i=0:=(by lia);have e2:j=0:=(by lia);subst e1;subst e2;exact jD.le_refl _) (jD.le_of_lt uz) q2
   exact mH q2 (by lia) hz hF
theorem o9(hR:iZ O key p k):∀(f l r:Nat),l<=r->r<=k->r - l<=f->(∀i,i<l->O.le (dG key p i) (dG key p k))->(∀i,r<=i->i<k->O.lt (dG key p k) (dG key p i)=true)->
  ∃m,g9 (nM O key) (kas_place p k f l r)=m/\m<=k/\(∀i,i<m->O.le (dG key p i) (dG key p k))/\∀i,m<=i->i<k->O.lt (dG key p k) (dG key p i)=true
 | 0,l,r,h1,h2,h3,h4,h5=>⟨l,rfl,by lia,h4,λi a b=>h5 i (by lia) b⟩
 |f+1,l,r,h1,h2,h3,h4,h5=>by
  unfold kas_place
  by_cases e:l ≥ r
  .
   rw[aav e];exact⟨l,rfl,by lia,h4,λi a b=>h5 i (by lia) b⟩
  .
   rw[aau e]
   show ∃m,g9 (nM O key) (if nM O key (p.getD k 0) (p.getD ((l+r) / 2) 0)=true then kas_place p k f l ((l+r) / 2)else kas_place p k f ((l+r) / 2+1) r)=m/\_
   cases e2:nM O key (p.getD k 0) (p.getD ((l+r) / 2) 0)with
   |true=>
    rw[aav rfl]
    refine o9 hR f l ((l+r) / 2) (by lia) (by lia) (by lia) h4 λi a b=>?_
    by_cases hi:r<=i
    .
     exact h5 i hi b
    .
     have q:O.le (dG key p ((l+r) / 2)) (dG key p i):=hR _ _ a b
     cases e3:O.lt (dG key p k) (dG key p i)with
     |true=>rfl
     |false=>
      have:=jD.rF q (show O.le (dG key p i) (dG key p k)from e3)
      have JM:O.lt (dG key p k) (dG key p ((l+r) / 2))=true:=e2
      unfold jD.le at this
      rw[this]at JM
      cases JM
   |false=>
    rw[aau aaF]
    refine o9 hR f ((l+r) / 2+1) r (by lia) h2 (by lia) (λi a=>?_) h5
    exact jD.rF (hR i ((l+r) / 2) (by lia) (by lia)) e2
theorem FZ:∀(f:Nat) (p:Array Nat) (k:Nat),k+f<=p.size->iZ O key p k->∃p',g9 (nM O key) (kas_bin f p k)=p'/\p'.Perm p/\iZ O key p' (k+f)
 | 0,p,k,_,h=>⟨p,rfl,acd _,h⟩
 |f+1,p,k,hz,h=>by
  unfold kas_bin
  rw[eE]
  obtain⟨l,q1,q2,q3,q4⟩:=o9 h k 0 k (abf _) (aal _) (by lia) (λi a=>absurd a (abV _)) (λi a b=>absurd (Nat.lt_of_le_of_lt a b) (aa7 _))
  rw[q1]
  have hk:=λi=>KJ (key:=key) (p:=p) (src:=k) (d:=k - l) (by lia) (by lia) i
  have hR:iZ O key (bubble p k (k - l)) (k+1):=λi j a b=>by
   rw[hk,hk]
   have e:k - (k - l)=l:=by lia
   rw[e]
   by_cases i1:i=l
   .
    rw[aav i1]
    by_cases j1:j=l
    .
     rw[aav j1];exact jD.le_refl _
    .
     rw[aau j1,aav ⟨by lia,by lia⟩]
     exact jD.le_of_lt (q4 (j - 1) (by lia) (by lia))
   .
    rw[aau i1]
    by_cases i2:l<i/\i<=k
    .
     rw[aav i2,aau (by lia),aav ⟨by lia,by lia⟩]
     exact h _ _ (by lia) (by lia)
    .
     rw[aau i2]
     by_cases j1:j=l
     .
      rw[aav j1];exact q3 i (by lia)
     .
      rw[aau j1]
      by_cases j2:l<j/\j<=k
      .
       rw[aav j2];exact h _ _ (by lia) (by lia)
      .
       rw[aau j2];exact h _ _ a (by lia)
  obtain⟨p',s1,s2,s3⟩:=FZ f (bubble p k (k - l)) (k+1) (by rw[bubble_size];lia) hR
  exact⟨p',s1,s2.trans (bubble_perm _ _ _),by rw[show k+(f+1)=k+1+f by lia];exact s3⟩
theorem KN(h1:1<=n):∃p,g9 (nM O key) (kas_sort n)=p/\p.Perm (List.range n).toArray/\iZ O key p n:=by
 unfold kas_sort
 rw[eE]
 obtain⟨m,p,q1,q2,q3,q4,q5⟩:=FW (O:=O) (key:=key) (p:=(List.range n).toArray) h1 (by simp)
 rw[q1]
 dsimp only
 have hs:p.size=n:=by rw[q2.size_eq];simp
 have e:max m 1=m:=by lia
 rw[e]
 by_cases hm:m<n
 .
  rw[aav hm]
  obtain⟨p',s1,s2,s3⟩:=FZ (O:=O) (key:=key) (n - m) p m (by lia) q5
  exact⟨p',s1,s2.trans q2,by rw[show m+(n - m)=n by lia]at s3;exact s3⟩
 .
  rw[aau hm]
  have:m=n:=by lia
  subst this
  exact⟨p,rfl,q2,q5⟩
end
noncomputable def zB{α:Type}(n:Nat)(P:α->Prop):KasT α->Prop
 |.ret a=>P a
 |.ask i j k=>i<n/\j<n/\∀b,zB n P (k b)
theorem zB.bind{α β:Type}{n:Nat}{P:α->Prop}{Q:β->Prop}{f:α->KasT β}:∀{t:KasT α},zB n P t->(∀a,P a->zB n Q (f a))->zB n Q (t.bind f)
 |.ret a,h,hf=>hf a h
 |.ask _ _ _,h,hf=>⟨h.1,h.2.1,λb=>(h.2.2 b).bind hf⟩
theorem u5{α:Type}{n:Nat}{P:α->Prop}{lt:Nat->Nat->Bool}{cmp:Nat->Nat->(Bool->Shared->Prop)->Shared->Prop}{Q:α->Shared->Prop}{s:Shared}(hc:∀i j C,i<n->j<n->C (lt i j) s->cmp i j C s):∀t:KasT α,zB n P t->Q (g9 lt t) s->t.kasWp cmp Q s
 |.ret _,_,h=>h
 |.ask i j k,ok,h=>hc i j _ ok.1 ok.2.1 (u5 hc (k (lt i j)) (ok.2.2 _) h)
def pg(n:Nat)(p:Array Nat):Prop:=0<n/\∀x∈p.toList,x<n
theorem pg.at(h:pg n p)(i:Nat):p.getD i 0<n:=by
 rw[abr]
 cases e:p[i]? with
 |none=>exact h.1
 |some x=>exact h.2 x (by rw[abv]at e;obtain⟨hi,rfl⟩:=e;simp)
theorem pg.perm(h:pg n p)(e:p'.Perm p):pg n p':=⟨h.1,λx hx=>h.2 x ((abX.mp e).mem_iff.mp hx)⟩
theorem pg.rev(h:pg n p)(i j:Nat):pg n (kas_rev p i j):=h.perm (mirror_perm _ _ _ _)
theorem pg.bub(h:pg n p)(i j:Nat):pg n (bubble p i j):=h.perm (bubble_perm _ _ _)
section
variable{N:Nat}
theorem xH(h:pg N p):∀f n,zB N (λ_=>True) (kas_asc p f n)
 | 0,_=>trivial
 |f+1,n=>⟨h.at _,h.at _,λb=>by cases b <;> first |exact trivial |exact xH h f (n+1)⟩
theorem nQ:∀f p n q,pg N p->zB N (λr=>pg N r.1) (kas_desc f p n q)
 | 0,_,_,_,h=>h
 |f+1,p,n,q,h=>by
  refine⟨h.at _,h.at _,λb=>?_⟩
  dsimp only
  cases b with
  |true=>
   rw[aav rfl]
   by_cases hq:q > 0
   .
    rw[aav hq];exact nQ f _ _ _ (h.rev _ _)
   .
    rw[aau hq];exact nQ f _ _ _ h
  |false=>
   rw[aau aaF]
   refine⟨h.at _,h.at _,λd=>?_⟩
   cases d with
   |true=>exact h
   |false=>exact nQ f _ _ _ h
theorem u6{p:Array Nat}{n nrem:Nat}(h:pg N p):zB N (λr=>pg N r.2) (kas_tail3 n nrem p):=(xH (h.rev 0 n) _ _).bind λ_ _=>h.rev 0 n
theorem mJ{p:Array Nat}{n nrem:Nat}(h:pg N p):zB N (λr=>pg N r.2) (kas_descPart n nrem p):=by
 refine (nQ _ _ _ _ h).bind λr hr=>?_
 by_cases hq:r.2.2 > 0
 .
  rw[aav hq];exact u6 (pg.rev hr _ _)
 .
  rw[aau hq];exact u6 hr
theorem Ga{p:Array Nat}{n:Nat}(h:pg N p):zB N (λr=>pg N r.2) (kas_count n p):=by
 refine (xH h _ _).bind λm _=>?_
 by_cases e1:(m==n)=true
 .
  rw[aav e1];exact h
 .
  rw[aau e1]
  by_cases e2:m > 1
  .
   rw[aav e2]
   refine⟨h.at _,h.at _,λb=>?_⟩
   cases b with
   |true=>exact h
   |false=>exact mJ (h.rev _ _)
  .
   rw[aau e2];exact mJ h
theorem pq(h:pg N p):∀f l r,zB N (λ_=>True) (kas_place p k f l r)
 | 0,_,_=>trivial
 |f+1,l,r=>by
  unfold kas_place
  by_cases e:l ≥ r
  .
   rw[aav e];exact trivial
  .
   rw[aau e]
   refine⟨h.at _,h.at _,λb=>?_⟩
   cases b with
   |true=>exact pq h f _ _
   |false=>exact pq h f _ _
theorem Gb:∀f p k,pg N p->zB N (λ_=>True) (kas_bin f p k)
 | 0,_,_,_=>trivial
 |f+1,p,k,h=>(pq h _ _ _).bind λl _=>Gb f _ _ (h.bub _ _)
theorem KQ{n:Nat}(h:0<n):zB n (λ_=>True) (kas_sort n):=by
 refine (Ga (p:=(List.range n).toArray) ⟨h,λx hx=>by simpa using hx⟩).bind λr hr=>?_
 by_cases e:r.1<n
 .
  rw[aav e];exact Gb _ _ _ hr
 .
  rw[aau e];exact trivial
end
open L2 PySem.W
section
variable{prog:Program}{w:World}{A:Around}{E:Value->Shared->Prop}{s:Shared}{α:Type}{O:jD α}{key:Nat->α}{κ:SortKind}
noncomputable def dD(s:Shared)(a:Addr)(vs:List Value):Shared:={ s with heap:=((s.heap.update a (Obj.mapSeq λ_=>#[])).push (seqObj "tuple" vs.toArray 0)).push (seqObj "list" #[] 0)}
theorem u9(hb:b≠a)(h:s.heap.get? b=some o):(dD s a vs).heap.get? b=some o:=
 aae _ (aae _ ((aaJ s.heap _ hb.symm).trans h))
theorem Gd(ho:s.heap.get? a=some (seqObj "list" vs.toArray n))(h2:2<=vs.length)(h64:vs.length<64)
  (hk:∀Q:SortKind->Shared->Prop,Q κ (dD s a vs)->wpAny (model prog w) A (keyKind' vs.toArray) Q (λ_ _=>False) (dD s a vs))
  (hc:∀i j C,i<vs.length->j<vs.length->C (nM O key i j) (dD s a vs)->kas_ask prog w A κ vs i j C (dD s a vs))
  (h:∀p:Array Nat,p.Perm (List.range vs.length).toArray->iZ O key p vs.length->P (.done (.ret .none)) { s with heap:=sortedHeap s.heap a vs (p.toList.map λi=>vs.getD i Value.none).toArray}) :
  wpAny (model prog w) A (Builtin.«list.sort» ⟨[.ref a],[]⟩) P E s:=by
 obtain⟨e1,N5⟩:∃e1,(s.heap.update a (Obj.mapSeq λ_=>#[])).get? a=some (seqObj "list" #[] e1):=⟨_,get?_update_seq ho (λ_=>#[])⟩
 have WW:(dD s a vs).heap.get? a=some (seqObj "list" #[] e1):=aae _ (aae _ N5)
 have hz:vs.length<=sizeLine:=(by rw[aaY];lia)
 rw[list_sort_plain]
 refine aad (listItems_at ho rfl (aad (listUpdate_at ho rfl (aad (seqEpoch_at N5 rfl (aad (wpAny_newTuple (aad (wpAny_newList (aa8 ?_) (abf _))) (by show vs.length<=_;exact hz))))) (by simpa using hz) (abf _))))
 show wpAny (model prog w) A _ P E (dD s a vs)
 have hn : ¬ vs.toArray.size<2:=by rw[aag];lia
 dsimp only
 rw[aau hn,aau hn]
 refine aad (aaN (hk (λk s0=>k=κ/\s0=dD s a vs) ⟨rfl,rfl⟩) ?_ λ_ _ z=>z.elim)
 rintro _ _ ⟨rfl,rfl⟩
 obtain⟨p0,q1,q2,q3⟩:=KN (O:=O) (key:=key) (n:=vs.length) (by lia)
 refine aad (aaN (kat_run (ks:=vs) (vs:=vs) (E:=E) (Q:=λst' s'=>s'=dD s a vs/\failedOf st'=none/\(arrOf st').map (·.2)=(p0.toList.map λi=>vs.getD i Value.none).toArray) (G:=λp s'=>s'=dD s a vs/\p=p0)
  rfl h2 h64 (λp st' s' _ har hf hg=>?_) (u5 hc _ (KQ (by lia)) ⟨rfl,q1⟩)) ?_ λ_ _ z=>z)
 .
  obtain⟨rfl,rfl⟩:=hg
  exact⟨rfl,hf,kat_snds rfl har⟩
 .
  rintro⟨⟨⟩,st'⟩ s' ⟨rfl,hf,hout⟩
  dsimp only at hf hout ⊢
  have aL:(p0.toList.map λi=>vs.getD i Value.none).length=vs.length:=by
   rw[aaA,aa9,q2.size_eq];simp
  rw[hout]
  refine aad (seqEpoch_at WW rfl (aad (listUpdate_at WW rfl ?_ (abf _) (by show (List.toArray _).size<=_;rw[aag,aL];lia))))
  rw[hf]
  simp only[bne_self_eq_false,Bool.false_eq_true,if_false]
  exact aak (h p0 q2 q3)
theorem zC{β:Type}:∀l:List β,(l.zip l).map (·.2)=l
 | []=>rfl
 |x::l=>by rw[ab7,List.map_cons,zC l]
theorem Ge(ho:s.heap.get? a=some (seqObj "list" vs.toArray n))(h2:vs.length<2)
  (h:P (.done (.ret .none)) { s with heap:=sortedHeap s.heap a vs vs.toArray}):wpAny (model prog w) A (Builtin.«list.sort» ⟨[.ref a],[]⟩) P E s:=by
 obtain⟨e1,N5⟩:∃e1,(s.heap.update a (Obj.mapSeq λ_=>#[])).get? a=some (seqObj "list" #[] e1):=⟨_,get?_update_seq ho (λ_=>#[])⟩
 have WW:(dD s a vs).heap.get? a=some (seqObj "list" #[] e1):=aae _ (aae _ N5)
 have hz:vs.length<=sizeLine:=(by rw[aaY];lia)
 rw[list_sort_plain]
 refine aad (listItems_at ho rfl (aad (listUpdate_at ho rfl (aad (seqEpoch_at N5 rfl (aad (wpAny_newTuple (aad (wpAny_newList (aa8 ?_) (abf _))) (by show vs.length<=_;exact hz))))) (by simpa using hz) (abf _))))
 show wpAny (model prog w) A _ P E (dD s a vs)
 have hn:vs.toArray.size<2:=by rw[aag];lia
 dsimp only
 rw[aav hn,aav hn]
 refine aad (aak ?_)
 rw[StateT.run_pure]
 refine aad (aak ?_)
 dsimp only
 have hout:(arrOf (SortSt.mk' general' (vs.toArray.zip vs.toArray) #[] 7 none)).map (·.2)=vs.toArray:=by
  show (vs.toArray.zip vs.toArray).map (·.2)=vs.toArray
  apply Array.toList_inj.mp
  simp only[Array.toList_map,Array.toList_zip,List.toList_toArray]
  exact zC vs
 rw[hout]
 refine aad (seqEpoch_at WW rfl (aad (listUpdate_at WW rfl ?_ (abf _) (by show vs.toArray.size<=_;rw[aag];lia))))
 show wpAny _ _ (if (e1 != e1)=true then _ else _) _ _ _
 rw[aau (by simp)]
 exact aak h
noncomputable def Gf(h:Heap)(vs:List Value):Heap:=((h.push (seqObj "list" #[] 0)).update h.objs.size (Obj.mapSeq (· ++ vs.toArray))).push (seqObj "list" vs.toArray 0)
theorem rG(h:Heap)(vs:List Value):((h.push (seqObj "list" #[] 0)).update h.objs.size (Obj.mapSeq (· ++ vs.toArray))).objs.size=h.objs.size+1:=(Heap.size_update ..).trans (size_push' ..)
theorem tG(h:Heap)(vs:List Value):(Gf h vs).get? (h.objs.size+1)=some (seqObj "list" vs.toArray 0):=by
 have:=aaq ((h.push (seqObj "list" #[] 0)).update h.objs.size (Obj.mapSeq (· ++ vs.toArray))) (o:=seqObj "list" vs.toArray 0) rfl
 rw[rG]at this
 exact this
theorem vd(e:h.get? b=some o):(Gf h vs).get? b=some o/\b≠h.objs.size+1:=by
 have hb:b<h.objs.size:=aas e
 refine⟨aae _ ?_,aaG (Nat.lt_succ_of_lt hb)⟩
 rw[aaJ _ _ (abK hb)]
 exact aae _ e
theorem Bt(hl:s.heap.IsList l vs.toArray\/IsTup s.heap l vs.toArray)(hz:vs.length<=sizeLine)
  (h:wpAny (model prog w) A.in1.in1 (Builtin.«list.sort» ⟨[.ref (s⁻¹+1)],[]⟩) (λf s'=>f=.done (.ret .none)/\Q (.ref (s⁻¹+1)) s') E { s with heap:=Gf s.heap vs}) :
  wpAny (model prog w) A (call (.builtin "sorted") [.ref l]) Q E s:=by
 refine Calls.call_function_entry kind_sorted plain_sorted entry_sorted (args_sorted1 _) ?_
 unfold Builtin.«sorted»
 have go:wpAny (model prog w) A.in1 (collect (.ref l)) (λvs' s'=>vs'=vs/\s'={ s with heap:=(s.heap.push (seqObj "list" #[] 0)).update s⁻¹ (Obj.mapSeq (· ++ vs.toArray))}) E s:=by
  rcases hl with hl |hl
  .
   exact collect_list hl ⟨rfl,rfl⟩ hz
  .
   exact jo hl ⟨rfl,rfl⟩ hz
 refine aad (m:=checkCount "sorted" 1 1 _) (aak (aad (aaN go ?_ λ_ _ z=>z)))
 rintro _ _ ⟨rfl,rfl⟩
 refine aad (wpAny_newList ?_ hz)
 show wpAny _ _ _ _ _ { s with heap:=Gf s.heap _}
 rw[rG]
 refine aad (aa8 (abe slot_list_sort ⟨_,tG _ _,rfl⟩ entry_list_sort (aaN h (λf s' hf=>⟨_,hf.1,?_⟩) λ_ _ z=>z) (args_list_sort _)))
 exact aak ⟨_,rfl,hf.2⟩
end
theorem lC:∀a:List Int,HT.lexLt a a=false
 | []=>rfl
 |x::a=>by rw[HT.dm,aav rfl,lC a]
theorem ve:∀a b c:List Int,HT.lexLt a b=true->HT.lexLt b c=true->HT.lexLt a c=true
 | [],[],_,h,_=>by cases h
 |_::_,[],_,h,_=>by cases h
 |_,_::_,[],_,h=>by cases h
 | [],_::_,_::_,_,_=>rfl
 |x::a,y::b,z::c,h1,h2=>by
  rw[HT.dm]at h1 h2 ⊢
  by_cases e1:x=y
  .
   rw[aav e1]at h1
   subst e1
   by_cases e2:x=z
   .
    rw[aav e2]at h2 ⊢
    exact ve a b c h1 h2
   .
    rw[aau e2]at h2 ⊢
    exact h2
  .
   rw[aau e1]at h1
   have h1':=aaH h1
   by_cases e2:y=z
   .
    rw[aav e2]at h2
    subst e2
    rw[aau e1]
    exact h1
   .
    rw[aau e2]at h2
    have h2':=aaH h2
    rw[aau (by lia)]
    exact abP (by lia)
theorem lD:∀a b:List Int,HT.lexLt a b=false->HT.lexLt b a=false->a=b
 | [],[],_,_=>rfl
 | [],_::_,h,_=>by cases h
 |_::_,[],_,h=>by cases h
 |x::a,y::b,h1,h2=>by
  rw[HT.dm]at h1 h2
  by_cases e:x=y
  .
   subst e
   rw[aav rfl]at h1 h2
   rw[lD a b h1 h2]
  .
   rw[aau e]at h1
   rw[aau (λz=>e z.symm)]at h2
   have:=of_decide_eq_false h1
   have:=of_decide_eq_false h2
   lia
noncomputable def iI:jD (List Int):=⟨HT.lexLt,lC,ve,lD⟩
section
variable{α:Type}(O:jD α)
noncomputable def Bu(a:α):List α->List α
 | []=>[a]
 |b::l=>if O.lt b a then b::Bu a l else a::b::l
noncomputable def dg:List α->List α
 | []=>[]
 |a::l=>Bu O a (dg l)
variable{O}
theorem lE(a:α):∀l:List α,(Bu O a l).Perm (a::l)
 | []=>abp _
 |b::l=>by
  unfold Bu
  split
  .
   exact ((lE a l).cons b).trans (List.Perm.swap a b l)
  .
   exact abp _
theorem eS:∀l:List α,(dg O l).Perm l
 | []=>abp _
 |a::l=>(lE a _).trans ((eS l).cons a)
theorem mK(a:α):∀{l:List α},l.Pairwise O.le->(Bu O a l).Pairwise O.le
 | [],_=>List.pairwise_singleton _ _
 |b::l,h=>by
  obtain⟨h1,h2⟩:=abC.mp h
  unfold Bu
  cases e:O.lt b a with
  |true=>
   rw[aav rfl]
   refine abC.mpr ⟨λx hx=>?_,mK a h2⟩
   rcases aaj.mp ((lE a l).mem_iff.mp hx)with rfl |hx
   .
    exact jD.le_of_lt e
   .
    exact h1 x hx
  |false=>
   rw[aau aaF]
   refine abC.mpr ⟨λx hx=>?_,h⟩
   rcases aaj.mp hx with rfl |hx
   .
    exact e
   .
    exact jD.rF (show O.le a b from e) (h1 x hx)
theorem gP:∀l:List α,(dg O l).Pairwise O.le
 | []=>List.Pairwise.nil
 |a::l=>mK a (gP l)
theorem xJ(hp:m.Perm l)(hs:m.Pairwise O.le):m=dg O l:=
 (hp.trans (eS l).symm).eq_of_pairwise (λx y _ _ h1 h2=>jD.zz h1 h2) hs (gP l)
theorem eU{β:Type}(ks:List β)(d:β):(List.range ks.length).map (λi=>ks.getD i d)=ks:=by
 refine List.ext_getElem (by simp) λi h1 h2=>?_
 simp[aaZ h2]
theorem vf(hp:p.Perm (List.range ks.length).toArray)(hr:iZ O (λi=>ks.getD i d) p ks.length):p.toList.map (λi=>ks.getD i d)=dg O ks:=by
 have hl:=abX.mp hp
 refine xJ ((hl.map _).trans (by rw[List.toList_toArray,eU])) ?_
 rw[List.pairwise_iff_getElem]
 intro i j hi hj hij
 have hs:p.size=ks.length:=by rw[hp.size_eq];simp
 rw[aaA,aa9]at hi hj
 have:=hr i j (acQ hij) (by lia)
 unfold dG at this
 have e1:p.getD i 0=p[i]:=by simp[Array.getD,hi]
 have e2:p.getD j 0=p[j]:=by simp[Array.getD,hj]
 rw[e1,e2]at this
 simpa using this
end
open L2 PySem.W
section
variable{prog:Program}{w:World}{A:Around}{E:Value->Shared->Prop}{s:Shared}
theorem Gg(hv:IntsAre vs ns):∀{ws:List Value}{ms:List Int} (i:Nat),IntsAre ws ms->fin=decide (ns.length<ms.length)->Q (HT.lexLt ns ms) s->KatLex prog w A true fin Q (vs.zip ws) i s:=by
 induction hv with
 |nil=>
  intro ws ms i hu hf h
  rw[List.zip_nil_left]
  refine kat_nil ?_
  rw[hf]
  cases hu with
  |nil=>exact h
  |cons _=>exact h
 |@cons n t vs ns hv ih=>
  intro ws ms i hu hf h
  cases hu with
  |nil=>
   rw[List.zip_nil_right]
   refine kat_nil ?_
   rw[hf]
   exact h
  |@cons m t' us ms hu=>
   rw[ab7]
   refine kat_cons (wpAny_eqBool_int (kat_go (λe=>?_) (λe=>?_)))
   .
    have e':n=m:=eq_of_beq e
    refine kat_yes (ih (i+1) hu (by rw[hf];simp) ?_)
    rw[HT.dm,aav e']at h
    exact h
   .
    have e':n≠m:=λq=>by rw[q]at e;simp at e
    rw[HT.dm,aau e']at h
    refine kat_no ?_
    cases i with
    |zero=>exact oneLt_int h
    |succ i=>exact kat_one _ _ (lt_int h)
def Gh(h:Heap)(v:Value)(ns:List Int):Prop:=∃a items,v=.ref a/\IsTup h a items/\IntsAre items.toList ns
theorem Gh.keep(x:Gh h v ns)(k:∀b o,h.get? b=some o->h'.get? b=some o):Gh h' v ns:=let ⟨a,its,e,t,i⟩:=x;⟨a,its,e,t.keeps k,i⟩
inductive TupIs(h:Heap):List Value->List (List Int)->Prop
 |nil:TupIs h [] []
 |cons {v:Value}{ns:List Int}{vs:List Value}{dP:List (List Int)}:Gh h v ns->TupIs h vs dP->TupIs h (v::vs) (ns::dP)
theorem TupIs.keep(k:∀b o,h.get? b=some o->h'.get? b=some o)(t:TupIs h vs dP):TupIs h' vs dP:=by
 induction t with
 |nil=>exact .nil
 |cons a b ih=>exact .cons (a.keep k) ih
theorem TupIs.length(t:TupIs h vs dP):vs.length=dP.length:=by
 induction t with
 |nil=>rfl
 |cons a b ih=>exact congrArg (· + 1) ih
theorem TupIs.at(t:TupIs h vs dP)(hi:i<vs.length):Gh h (vs.getD i .none) (dP.getD i []):=by
 induction t generalizing i with
 |nil=>exact absurd hi (abV _)
 |cons a b ih=>cases i with
  |zero=>exact a
  |succ i=>exact ih (abR hi)
theorem TupIs.firsts(t:TupIs h vs dP)(ji:∀ns∈dP,ns≠[]):∃fs:List Value,KatTups h vs fs/\fs.length=vs.length/\∀v∈fs,∃i t,v=.int i t:=by
 induction t with
 |nil=>exact⟨[],.nil,rfl,λ_ z=>nomatch z⟩
 |@cons v ns vs dP a b ih=>
  obtain⟨fs,q1,q2,q3⟩:=ih λns hn=>ji ns (aaf _ hn)
  obtain⟨a,items,e,⟨o,e1,e2,n,e3⟩,hi⟩:=a
  subst e
  obtain⟨items⟩:=items
  cases items with
  |nil=>
   cases ns with
   |nil=>exact absurd rfl (ji [] aah)
   |cons _ _=>cases hi
  |cons v items=>
   cases ns with
   |nil=>cases hi
   |cons m ns=>
    cases hi
    exact⟨_::fs,KatTups.cons e1 e2 e3 rfl q1,by rw[aaQ,aaQ,q2],λv hv=>(aaj.mp hv).elim (λz=>⟨_,_,z⟩) (q3 v)⟩
theorem Bv:Looks M h (typeOf (.int i t)) (.type "int"):=.now
theorem vg(hl:s.heap.IsList l vs.toArray\/IsTup s.heap l vs.toArray)(ht:TupIs s.heap vs dP)(ji:∀ns∈dP,ns≠[])(h64:vs.length<64)
  (h:∀p:List Nat,p.Perm (List.range vs.length)->p.map (λi=>dP.getD i [])=dg iI dP->Q (.ref (s⁻¹+1)) { s with heap:=sortedAll s.heap vs (p.map λi=>vs.getD i Value.none).toArray}) :
  wpAny (model prog w) A (call (.builtin "sorted") [.ref l]) Q E s:=by
 have hz:vs.length<=sizeLine:=by rw[aaY];lia
 refine Bt hl hz ?_
 have aL:=ht.length
 by_cases h2:vs.length<2
 .
  refine Ge (tG _ _) h2 ⟨rfl,?_⟩
  have:=h (List.range vs.length) (abp _) (by
   rw[aL,eU]
   match dP,aL with
   | [],_=>rfl
   | [x],_=>rfl
   |_::_::_,hl2=>rw[hl2,aaQ,aaQ]at h2;lia)
  rw[eU]at this
  exact this
 .
  have keep:∀b o,s.heap.get? b=some o->(dD { s with heap:=Gf s.heap vs} (s⁻¹+1) vs).heap.get? b=some o:=λb o e=>u9 (vd (vs:=vs) e).2 (vd e).1
  have ht':=ht.keep keep
  refine Gd (κ:=tuples' true) (O:=iI) (key:=λi=>dP.getD i []) (tG _ _) (by lia) h64 (λQ' hq=>?_) (λi j C hi hj hC=>?_) λp hp hr=>⟨rfl,?_⟩
  .
   obtain⟨fs,q1,q2,q3⟩:=ht'.firsts ji
   exact kat_kind (T:=.type "int") q1 (by lia) (λv hv=>by obtain⟨i,t,rfl⟩:=q3 v hv;exact Bv) (by decide) hq
  .
   obtain⟨a,its,e,⟨o,e1,e2,n,e3⟩,q⟩:=ht'.at hi
   obtain⟨b,kO,e',⟨o2,e4,e5,n2,e6⟩,q'⟩:=ht'.at hj
   show wpAny _ _ (keyLt' (tuples' true) (vs.getD i Value.none) (vs.getD j Value.none)) C _ _
   rw[e,e']
   refine kat_lt e1 e3 e4 e6 (Gg q 0 q' ?_ hC)
   rw[<- q.length,<- q'.length]
   simp
  .
   rw[aL]at hp hr
   exact h p.toList (by rw[aL];exact (abX.mp hp).trans (by simp)) (vf hp hr)
end
section
variable{X:Cx}{z:Z}
noncomputable def pD:List D->Option (List (List Int))
 | []=>some []
 |.tup l::ds=>match bZ l,pD ds with |some (n::ns),some dP=>some ((n::ns)::dP) |_,_=>none
 |_::_=>none
inductive mL(K:Frag)(H:Hp):List V->List (List Int)->Prop
 |nil:mL K H [] []
 |cons {a:Addr}{ns:List Int}{vs:List V}{dP:List (List Int)}:iA K H a (ns.map V.int)->mL K H vs dP->mL K H (.ref a::vs) (ns::dP)
theorem mL.real(I:L2.Inv X ah σ H s)(t:mL X.K H xs dP):∀{its:List Value},Vals xs its->TupIs s.heap its dP:=by
 induction t with
 |nil=>intro its r;cases r;exact .nil
 |cons q _ ih=>
  intro its r
  cases r with
  |cons r rs=>
   cases r
   obtain⟨kO,r2,p,_⟩:=I.tuple q
   exact .cons ⟨_,_,rfl,p,by simpa using intsAre_of r2⟩ (ih rs)
theorem Bw(h:Vals xs us):∀{i:Nat},i<xs.length->RelV (xs.getD i .non) (us.getD i .none):=by
 induction h with
 |nil=>intro i hi;exact absurd hi (abV _)
 |cons r _ ih=>
  intro i hi
  cases i with
  |zero=>exact r
  |succ i=>exact ih (by simpa using hi)
theorem rH(h:Vals xs us):∀{p:List Nat},(∀i∈p,i<xs.length)->Vals (p.map λi=>xs.getD i .non) (p.map λi=>us.getD i .none)
 | [],_=>.nil
 |i::p,hp=>.cons (Bw h (hp i aah)) (rH h λj hj=>hp j (aaf _ hj))
theorem tH:fF X (.builtin "sorted") (λxs H Q=>∃p ys dP,xs=[.ref p]/\(cK X.K H p ys\/iA X.K H p ys)/\mL X.K H ys dP/\(∀ns∈dP,ns≠[])/\ys.length<64/\
  ∀q (o:List Nat),H q=none->(∀i∈o,i<ys.length)->o.map (λi=>dP.getD i [])=dg iI dP->Q (.ref q) (upd H q (.lst (o.map λi=>ys.getD i .non)))):=by
 intro ah s σ H xs us Q I r h
 obtain⟨p,ys,dP,rfl,hq,ht,ji,hl,q⟩:=h
 obtain⟨u,rfl,rx⟩:=vals1 r
 cases rx
 have fin:∀its:List Value,Vals ys its->(s.heap.IsList p its.toArray\/IsTup s.heap p its.toArray)->wpAny (model X.prog X.w) X.A (call (.builtin "sorted") [.ref p]) (EP X ah σ Q) X.xe s:=λits r' pl=>by
  have aL:=r'.length
  refine vg pl (ht.real I r') ji (by lia) λo ho hs=>?_
  obtain⟨ep,he⟩:=sortedAll_at s.heap its (o.map λi=>its.getD i Value.none).toArray
  have hin:∀i∈o,i<ys.length:=λi hi=>by rw[aL];exact abo.mp (ho.mem_iff.mp hi)
  have YM:o.length=ys.length:=by rw[ho.length_eq,List.length_range,aL]
  refine⟨.ref (s⁻¹+1),_,I.laid (t':=s.toks) (o:=.lst (o.map λi=>ys.getD i .non)) (λb ob e=>sortedAll_old e) (acj _) ?_,rfl,q _ o (I.hok.fresh (acj _)) hin hs⟩
  refine⟨by rw[aaA,aaY];lia,_,ep,rH r' hin,he⟩
 rcases hq with hq |hq
 .
  obtain⟨its,r',pl,hz⟩:=I.list hq
  exact fin its r' (.inl pl.isList)
 .
  obtain⟨its,r',pl,hz⟩:=I.tuple hq
  exact fin its r' (.inr pl)
theorem KR(e:bZ l=some ns):l=ns.map .int:=by
 induction l generalizing ns with
 |nil=>cases e;rfl
 |cons d l ih=>cases d with
  |int i=>
   have e:(match bZ l with |some ns=>some (i::ns) |none=>none)=some ns:=e
   cases e2:bZ l with
   |none=>rw[e2]at e;cases e
   |some ms=>rw[e2]at e;cases e;rw[List.map_cons,<- ih e2]
  |_=>cases e
theorem Bx{K:Frag}{M:List Addr}{H:Hp}{l:List D}{xs:List V}{dP:List (List Int)}(q:aI K M H l xs)(e:pD l=some dP):mL K H xs dP/\(∀ns∈dP,ns≠[])/\l=dP.map λns=>.tup (ns.map .int):=by
 induction l generalizing xs dP with
 |nil=>cases q;cases e;exact⟨.nil,λ_ z=>(nomatch z),rfl⟩
 |cons d l ih=>cases q with |cons r q=>cases d with
  |tup m=>
   unfold pD at e
   split at e
   .
    rename_i n ns dP e1 e2
    cases e
    obtain⟨t1,t2,t3⟩:=ih q e2
    cases r with
    |tup ha rr=>
     have:=ez rr e1
     subst this
     refine⟨.cons ha.sq t1,λx hx=>(aaj.mp hx).elim (λz=>by rw[z];exact List.cons_ne_nil _ _) (t2 x),?_⟩
     rw[List.map_cons,<- t3,KR e1]
   .
    cases e
  |_=>cases e
theorem aI.pick{K:Frag}{M:List Addr}{H:Hp}{ds:List D}{vs:List V}(h:aI K M H ds vs):∀{o:List Nat},(∀i∈o,i<vs.length)->aI K M H (o.map λi=>ds.getD i .non) (o.map λi=>vs.getD i .non)
 | [],_=>.nil
 |i::o,ho=>by
  refine .cons ?_ (h.pick λj hj=>ho j (aaf _ hj))
  have hi:=ho i aah
  have hd:i<ds.length:=by rw[h.length];exact hi
  obtain⟨v,e1,e2⟩:=h.get (i:=i) (d:=ds[i]) (by simp[hd])
  have q1:ds.getD i .non=ds[i]:=by simp[hd]
  have q2:vs.getD i .non=v:=by rw[aa6,e1];rfl
  show Rep K M H (ds.getD i .non) (vs.getD i .non)
  rw[q1,q2]
  exact e2
theorem xK{d:D}{l:List D}{dP:List (List Int)}(hK:z.K=X.K)(h:cR d=some l)(hi:pD l=some dP)(hl:dP.length<64):CallD X z (.builtin "sorted") [d] (.new ((dg iI dP).map λns=>.tup (ns.map .int))):=by
 refine⟨_,tH,λg σ As M H vs Q s p k=>?_⟩
 obtain⟨v,rfl,pv⟩:=p.one
 have main:∀(a:Addr) (xs:List V),aI z.K M H l xs->(cK X.K H a xs\/iA X.K H a xs)->∃p ys dP,[V.ref a]=[.ref p]/\(cK X.K H p ys\/iA X.K H p ys)/\mL X.K H ys dP/\(∀ns∈dP,ns≠[])/\ys.length<64/\
   ∀q (o:List Nat),H q=none->(∀i∈o,i<ys.length)->o.map (λi=>dP.getD i [])=dg iI dP->Q (.ref q) (upd H q (.lst (o.map λi=>ys.getD i .non))):=λa xs rr hq=>by
  obtain⟨t1,t2,t3⟩:=Bx rr hi
  have aL:xs.length=dP.length:=by rw[<- rr.length,t3,aaA]
  refine⟨a,xs,dP,rfl,hq,hK▸t1,t2,by lia,λq o hf hin hs=>?_⟩
  have e:((dg iI dP).map λns=>D.tup (ns.map .int))=o.map λi=>l.getD i .non:=by
   rw[<- hs,List.map_map]
   refine abt λi hi=>?_
   have:i<dP.length:=by rw[<- aL];exact hin i hi
   rw[t3]
   simp[this]
  have rr':=(rr.pick hin).stay (au.aZ (o:=.lst (o.map λi=>xs.getD i .non)) hf)
  refine k _ _ As (q::M) (s.aZ hf) (au.aZ hf) ⟨q,_,rfl,aah,λhA=>s.fresh hf (s.sub q hA),s.cQ hf,aE,?_⟩
  rw[e]
  exact rr'
 cases d with
 |lst m=>
  cases h
  obtain⟨a,xs,rfl,e1,e2⟩:=pv.list
  exact main a xs e2 (.inl (cK.of e1))
 |tup m=>
  cases h
  obtain⟨a,xs,rfl,e1,e2⟩:=pv.tup
  exact main a xs e2 (.inr (hK▸e1.sq))
 |fix m=>
  cases h
  obtain⟨a,xs,rfl,e1,e2⟩:=pv.fix
  exact main a xs e2 (.inl (hK▸e1.sq))
 |_=>cases h
end
open L2 PySem.W
section
variable{X:Cx}{z:Z}
end
open L2 PySem.W
section
variable{X:Cx}{z:Z}
noncomputable def Gi(X:Cx)(z:Z)(id:String)(d0 d1:D)(r:R):Prop:=
 ∀(g:G) (ah:List (Addr×Obj)) (s:Shared) (σ:Sg) (As M:List Addr) (H:Hp) (v0 v1:V) (u0 u1:Value) (Post:Value->Shared->Prop),L2.Inv X ah σ H s->S z g σ As M H->Pk z.K M H d0 v0->Pk z.K M H d1 v1->RelV v0 u0->RelV v1 u1->
  (∀v u s1 H1 aM M1,L2.Inv X ah σ H1 s1->RelV v u->S z g σ aM M1 H1->au M H M1 H1->cL z g σ aM M1 H1 r v->Post u s1)->wpAny (model X.prog X.w) X.A (call (.builtin id) [u0,u1]) Post X.xe s
theorem KS(I:L2.Inv X ah σ H s)(p:Pk X.K M H d v)(r:RelV v u)(hs:cR d=some l):s.TypeIs u (j8 d)/\∀a,u=.ref a->∃ob,s.heap.get? a=some ob/\ob.dict=none:=by
 cases d with
 |tup m=>
  obtain⟨a,xs,rfl,ha,_⟩:=p.tup
  cases r
  have:∃o,s.heap.get? a=some o/\o.cls=.type "tuple" /\o.dict=none:=by
   rcases ha with ⟨_,hr⟩ |⟨hk,o,e1,e2⟩
   .
    obtain⟨_,its,_,⟨o,e1,⟨e2,_⟩,e3⟩⟩:=hr.ok I.hok
    exact⟨o,e1,e2,e3⟩
   .
    obtain⟨its,_,⟨o',q1,q2,_⟩,_⟩:=I.tuple (hk.elim (λz=>(Z7 z).elim) .inr:iA X.K H a xs)
    have:=I.nh a o e1
    rw[q1]at this
    cases this
    exact⟨_,q1,q2,e2⟩
  obtain⟨o,e1,e2,e3⟩:=this
  exact⟨⟨o,e1,e2⟩,λb e=>by cases e;exact⟨o,e1,e3⟩⟩
 |lst m=>
  obtain⟨a,xs,rfl,ha,_⟩:=p.list
  cases r
  obtain⟨its,_,pl,_⟩:=I.list (cK.of ha)
  obtain⟨o,n,e1,e2,e3,e4⟩:=pl
  exact⟨⟨o,e1,e2⟩,λb e=>by cases e;exact⟨o,e1,e3⟩⟩
 |fix m=>
  obtain⟨a,xs,rfl,ha,_⟩:=p.fix
  cases r
  obtain⟨its,_,pl,_⟩:=I.list ha.sq
  obtain⟨o,n,e1,e2,e3,e4⟩:=pl
  exact⟨⟨o,e1,e2⟩,λb e=>by cases e;exact⟨o,e1,e3⟩⟩
 |_=>cases hs
theorem KY{o e:Expr}{name:Str}{id:String}{g g1 g2:G}{r0 r1 r:R}{d d0 d1:D}{l:List D}{aQ aG:Pos}(hK:z.K=X.K)(pa:PlainAttrs (j8 d))(slot:PySem.Slot (j8 d) name id)(hty:typeOf (.builtin id)=pure (.type "method_descriptor"))
  (h0:aA X z o g r0 g1) (p0:pk r0 g1=some d) (hs:cR d=some l) (ha:cG X z [e] g1 [r1] g2) (q0:pk r0 g2=some d0) (q1:pk r1 g2=some d1) (hm:Gi X z id d0 d1 r)
  (hbase:attributeBase o name X.env (eval o X.env)=eval o X.env)
  (hfew:((backTo aG (starEach [e] X.env)).all (λx=>!x.1)&&(backToKw aG (keywordEach [] X.env)).all (λx=>x.1.isSome)
   && decide ([e].length+([]:List Keyword).length+(if ([]:List Keyword).isEmpty then 0 else 1)<30))=true)
  (hline:(aQ.endLine==aG.line)=true) (d9:starEach [e] X.env=(false,eval e X.env)::starEach [] X.env):aA X z (.Call (.Attribute o name aQ) [e] [] aG) g r g2:=by
 refine aA.of λah s σ As M H Post I st k=>?_
 refine wpAny_Call_method_late hbase hfew hline rfl (h0.run I st λv u s1 H1 aM M1 I1 r1' zb xB Bc=>?_)
 obtain⟨hT,hd⟩:=KS I1 (hK▸zb.pk (au.refl _ _) Bc p0) r1' hs
 refine⟨_,id,pa,slot,hty,hT,hd,?_⟩
 have hA:=ha.run (pos:=aG) (Post:=λus s2=>wpAny (model X.prog X.w) X.A (call (.builtin id) (u::us)) Post X.xe s2) I1 zb λvs us s2 H2 bw M2 I2 r2 t1 t2 t3=>by
  have uO:=t1.uO t3 (ds:=[d1]) (by unfold uO;rw[q1];rfl)
  obtain⟨v1,rfl,pv1⟩:=uO.one
  obtain⟨u1,rfl,ru1⟩:=vals1 r2
  exact hm g2 ah s2 σ bw M2 H2 v v1 u u1 Post I2 t1 (t1.pk t2 Bc q0) pv1 r1' ru1 λv' u' s3 H3 jU M3 I3 r3 w1 w2 w3=>k v' u' s3 H3 jU M3 I3 r3 w1 (xB.trans (t2.trans w2)) w3
 rw[d9]at hA ⊢
 exact Calls.callWith_builtin rfl (Calls.evalArgs_plain hA)
end
open L2 PySem.W SeqAt
theorem xM{M:Model}{A:Around}{E:Value->Shared->Prop}{s:Shared}{β:Type}{b:Nat}{c:β}{f:Nat->β->Sem (ForInStep β)}{Q:β->Shared->Prop}(h:wpAny M A (forIn (List.range' 0 b) c f) Q E s):wpAny M A (forIn [0:b] c f) Q E s:=by
 rw[Std.Legacy.Range.forIn_eq_forIn_range']
 have hz:([0:b]:Std.Legacy.Range).size=b:=by simp[Std.Legacy.Range.size]
 rw[hz]
 exact h
theorem vh(l:Addr)(items:Array Value)(n:Nat)(dd:Option Addr)(sl:Array (Option Value))(x:Value)(e:Value->Bool)(j:Nat)(hj:j<items.size)(hit:e items[j]=true)(hno:∀m (hm:m<items.size),m<j->e items[m]=false) :
  Meets (Builtin.«tuple.index» ⟨[.ref l,x],[]⟩)
   (λA R s=>s.heap.get? l=some { cls:=.type "tuple",dict:=dd,data:=.seq items n,slots:=sl}/\(∀y,y∈items->EqAt A.in1 s y x (e y))/\R (.ok (.ret (.int j s.toks))) { s with toks:=s.toks+1}):=
 .of_wp λprog w A R s h=>by
  obtain⟨hp,g,d,tk,os⟩:=s;obtain⟨hl,he,h⟩:=h
  wp_walk using wpAny_loadPart' hl
  rw[show min items.size items.size=items.size from Nat.min_self _]
  refine xM (wpAny_forIn_list _ (λrest b s'=>b=(none,())/\s'=⟨hp,g,d,tk,os⟩/\∃i,i<=j/\rest=List.range' i (items.size - i)) _ ?_ ?_ _ _ ⟨rfl,rfl,0,abf _,rfl⟩)
  .
   rintro y rest b s' ⟨rfl,rfl,i,hi,hr⟩
   have uz:i<items.size:=by lia
   have hc:List.range' i (items.size - i)=i::List.range' (i+1) (items.size - (i+1)):=by
    rw[show items.size - i=(items.size - (i+1))+1 by lia,ab3]
   rw[hc]at hr
   injection hr with h1 h2
   subst h1 h2
   have hg:items[y]?=some items[y]:=by simp[uz]
   rw[hg]
   refine aad (he _ (Array.getElem_mem uz) prog w _ _ ?_)
   by_cases e1:y=j
   .
    subst e1
    rw[hit]
    wp_walk
    exact⟨_,rfl,h⟩
   .
    rw[hno y uz (by lia)]
    wp_walk
    exact⟨rfl,rfl,y+1,by lia,rfl⟩
  .
   rintro b s' ⟨_,_,i,hi,hr⟩
   exfalso
   have:=congrArg List.length hr
   simp at this
   lia
section
variable{X:Cx}{z:Z}
noncomputable def WX:D->String
 |.tup _=> "tuple.count"
 |_=> "list.count"
noncomputable def N6:D->String
 |.tup _=> "tuple.index"
 |_=> "list.index"
noncomputable def xN(d1:D):List D->Option Nat
 | []=>none
 |d::l=>if bL d d1=true then some 0 else match xN d1 l with |some i=>some (i+1) |none=>none
theorem zD:∀{l:List D}{j:Nat},xN d1 l=some j->∃d,l[j]?=some d/\bL d d1=true/\∀m d,m<j->l[m]?=some d->bL d d1=false
 | [],_,h=>by cases h
 |d::l,j,h=>by
  unfold xN at h
  split at h
  .
   rename_i e;cases h;exact⟨d,rfl,e,λm _ hm=>absurd hm (abV _)⟩
  .
   rename_i e
   split at h
   .
    rename_i i e2
    cases h
    obtain⟨d',q1,q2,q3⟩:=zD e2
    refine⟨d',q1,q2,λm x hm hx=>?_⟩
    cases m with
    |zero=>cases hx;exact Bool.eq_false_iff.mpr e
    |succ m=>exact q3 m x (by lia) hx
   .
    cases h
theorem Gj(q:mF h l us)(hm:m<us.length):∃d,l[m]?=some d/\sW h x us[m]=bL d x:=by
 obtain⟨d,e1,e2⟩:=q.get (j:=m) (u:=us[m]) (by simp[hm])
 exact⟨d,e1,xA e2⟩
theorem Gk(hK:z.K=X.K)(hs:cR d0=some l)(p1:fO d1=true)(p2:fD l=true)(hd:X.A.units+deps l+1<cLine)(hi:xN d1 l=some j):Gi X z (N6 d0) d0 d1 (.dat (.int j)):=by
 intro g ah s σ As M H v0 v1 u0 u1 Post I st q0 q1 r0 r1 k
 rw[hK]at q0 q1
 have hx:=q1.dv I r1 p1
 have fin:Post (.int j s.toks) { s with toks:=s.toks+1}:=k (.int _) _ _ H As M (I.tok _) ⟨_,rfl⟩ st (au.refl _ _) (.int _)
 obtain⟨dj,w1,w2,w3⟩:=zD hi
 have hjl:j<l.length:=(aai.mp w1).1
 have key:∀{its:List Value},mF s.heap l its->its.length<=sizeLine->(j<its.toArray.size)/\(j:Int)<2 ^ 63 - 1/\(∀h:j<its.toArray.size,sW s.heap d1 its.toArray[j]=true)/\∀m (hm:m<its.toArray.size),m<j->sW s.heap d1 its.toArray[m]=false:=λ{its} q hz=>by
  have hl:=q.length
  have hz':its.length<=16777216:=by rw[aaY]at hz;exact hz
  refine⟨by simp;lia,by lia,λh=>?_,λm hm uz=>?_⟩
  .
   obtain⟨d,e1,e2⟩:=Gj q (x:=d1) (m:=j) (by lia)
   rw[w1]at e1;cases e1
   simpa using e2.trans w2
  .
   obtain⟨d,e1,e2⟩:=Gj q (x:=d1) (m:=m) (by simpa using hm)
   simpa using e2.trans (w3 m d uz e1)
 cases d0 with
 |tup m=>
  cases hs
  obtain⟨a,xs,rfl,ha,rr⟩:=q0.tup
  cases r0
  obtain⟨its,rv,⟨⟨cls,dd,data,sl⟩,ho,hc,n,hdt⟩,hz⟩:=I.tuple ha.sq
  simp only at hc hdt
  subst hc hdt
  have mq:=rr.dv I rv p2
  obtain⟨k1,k2,k3,k4⟩:=key mq (by rw[<- rv.length];exact hz)
  show wpAny _ _ (call (.builtin "tuple.index") _) _ _ _
  exact acm F.slot_tuple_index ⟨_,ho,rfl⟩ F.entry_tuple_index (F.args_tuple_index_2 _ _) (vh a its.toArray n dd sl u1 (sW s.heap d1) j k1 (k3 k1) k4) ⟨ho,lu mq hx hd,fin⟩
 |lst m=>
  cases hs
  obtain⟨a,xs,rfl,ha,rr⟩:=q0.list
  cases r0
  obtain⟨its,rv,pl,hz⟩:=I.list (cK.of ha)
  obtain⟨⟨cls,dd,data,sl⟩,ho,hc,n,hdt⟩:=pl.isList
  simp only at hc hdt
  subst hc hdt
  have mq:=rr.dv I rv p2
  obtain⟨k1,k2,k3,k4⟩:=key mq (by rw[<- rv.length];exact hz)
  show wpAny _ _ (call (.builtin "list.index") _) _ _ _
  exact acm acp ⟨_,ho,rfl⟩ F.entry_list_index (F.args_list_index_2 _ _) (list_indexAt a its.toArray n dd sl u1 (sW s.heap d1) j k1 k2 (k3 k1) k4) ⟨ho,lu mq hx hd,fin⟩
 |fix m=>
  cases hs
  obtain⟨a,xs,rfl,ha,rr⟩:=q0.fix
  cases r0
  obtain⟨its,rv,pl,hz⟩:=I.list ha.sq
  obtain⟨⟨cls,dd,data,sl⟩,ho,hc,n,hdt⟩:=pl.isList
  simp only at hc hdt
  subst hc hdt
  have mq:=rr.dv I rv p2
  obtain⟨k1,k2,k3,k4⟩:=key mq (by rw[<- rv.length];exact hz)
  show wpAny _ _ (call (.builtin "list.index") _) _ _ _
  exact acm acp ⟨_,ho,rfl⟩ F.entry_list_index (F.args_list_index_2 _ _) (list_indexAt a its.toArray n dd sl u1 (sW s.heap d1) j k1 k2 (k3 k1) k4) ⟨ho,lu mq hx hd,fin⟩
 |_=>cases hs
end
open L2 PySem.W SeqAt
section
variable{X:Cx}{z:Z}{g g1 g2:G}{p pos kp kpos lp rp:Pos}{e a b:Expr}
end
open L2 PySem.W SeqAt
section
variable{prog:Program}{w:World}{A:Around}{E:Value->Shared->Prop}{s:Shared}
end
section
variable{X:Cx}{z:Z}{g g1:G}{pos lp:Pos}
end
open L2 PySem.W SeqAt
noncomputable def Its(lo c:Int)(n:Nat):It:=⟨λi _=>i<n,λi H x H'=>H'=H/\x=.int (lo+i * c),λi _=>n<=i⟩
theorem By{P:Program}{w:World}{K:Frag}{tg:Expr}(it:Addr)(lo c:Int)(n:Nat):Turn P w K tg (Its lo c n) [it] it (λi h=>IsRangeIter h it (lo+(i:Nat) * c) ((n:Int) - (i:Nat)) c) where
 mem:=by simp
 obj:=λi h st b hb=>by
  cases aaC.mp hb
  exact⟨_,st,λv z=>nomatch (show Data.fields _=Data.cell v from z)⟩
 keep:=λi h h' st k=>k it (by simp) _ st
 item:=by
  intro X hP hw hK hc i ah s σ H E I hf st hg
  subst hP hw hK
  obtain⟨f0,f1,f2,f3,f4,f5⟩:=hf it (by simp)
  refine (Walks.range (prog:=X.prog) (w:=X.w) (I.ok.hd hc) it lo c n).item i s _ _ hg st λv h' tk hv st' kk=>?_
  obtain⟨t,rfl⟩:=hv
  refine⟨_,rfl,yS (s:={ s with heap:=h',toks:=tk}) (n:= "range_iterator") st' rfl rfl (by decide) ⟨.int (lo+i * c),H,?_,⟨t,rfl⟩,⟨rfl,rfl⟩,st',λb hb=>(hf b hb).1⟩⟩
  exact I.turned (λb o hb e=>kk b o (by simpa using hb) e) f0 f1 f3 f4 f5
 done:=by
  intro X hP hw hK hc i ah s σ H E I hf st hg
  subst hP hw hK
  obtain⟨f0,f1,f2,f3,f4,f5⟩:=hf it (by simp)
  exact wpAny_pyNext_range_end (I.ok.hd hc) st (by have:n<=i:=hg;lia) λh' eb=>⟨rfl,I.turned (t':=s.toks) (λb o hb e=>eb b o hb e) f0 f1 f3 f4 f5⟩
 self:=λ_ _ _ _ _ st h=>wpAny_pyIter_rangeiter st h
noncomputable def qE(lo c:Int)(n:Nat):List D:=(List.range n).map λ(k:Nat)=>D.int (lo+(k:Int) * c)
theorem vj(lo c:Int)(n:Nat):(qE lo c n).length=n:=by simp[qE]
theorem Gm{lo c:Int}{n k:Nat}(h:k<n):(qE lo c n)[k]?=some (.int (lo+(k:Int) * c)):=by simp[qE,h]
theorem Rp{lo c:Int}{n:Nat}{K:Frag}{M:List Addr}{H:Hp}:Jt (Its lo c n) (qE lo c n) K M H:=λM2 H2 _=>by
 refine⟨λk d hd=>?_,?_⟩
 .
  have hk:k<n:=by have:=(aai.mp hd).1;rw[vj]at this;exact this
  rw[Gm hk]at hd
  cases hd
  refine⟨hk,λx H' hx z' g' σ' aB _ s'=>?_⟩
  obtain⟨rfl,rfl⟩:=hx
  exact⟨s',au.refl _ _,.int _⟩
 .
  show n<=(qE lo c n).length
  rw[vj]
  exact aal _
noncomputable def lF(lo hi c:Int):Nat:=if lo<hi then ((hi - lo - 1) / c+1).toNat else 0
theorem zE{lo hi c:Int}(hc:0<c):Builtin.Range.rangeSize lo hi c=(lF lo hi c:Int):=by
 unfold Builtin.Range.rangeSize lF
 rw[aav hc]
 split
 .
  have:0<=(hi - lo - 1) / c:=Int.ediv_nonneg (by lia) (by lia)
  lia
 .
  rfl
theorem xO{a b c:Int}(h1 : -(2 ^ 30)<=a/\a<2 ^ 30)(h2 : -(2 ^ 30)<=b/\b<2 ^ 30)(h3:0<c/\c<2 ^ 30):Builtin.Range.small a b c=true:=by
 have hn:=zE (lo:=a) (hi:=b) h3.1
 unfold Builtin.Range.small
 rw[hn]
 have hb:(lF a b c:Int)<=2 ^ 31+1:=by
  unfold lF
  split
  .
   have:(b - a - 1) / c<=b - a - 1:=Int.ediv_le_self _ (by lia)
   lia
  .
   decide
 have hm:(lF a b c:Int) * c<=(2 ^ 31+1) * 2 ^ 30:=Int.mul_le_mul hb (by lia) (by lia) (by decide)
 have hm0:0<=(lF a b c:Int) * c:=Int.mul_nonneg (by lia) (by lia)
 have hc0:c > 0:=h3.1
 simp only[Builtin.Range.rangeFitsLong,aao,abu,aaz,beq_iff_eq,hc0,abM]
 lia
section
variable{X:Cx}{z:Z}{g g1:G}{tg iter:Expr}{p rp:Pos}{a b c:Expr}
theorem iE.of (h:∀(ah:List (Addr×Obj)) (s:Shared) (σ:Sg) (As M:List Addr) (H:Hp) (Post:Value->Shared->Prop),L2.Inv X ah σ H s->S z g σ As M H->
  (∀v s1,(∀(R:It->Hp->Prop),(∀J H' aB M',S z g1 σ aB M' H'->au M H M' H'->Jt J items z.K M' H'->R J H')->wpAny (model X.prog X.w) X.A (pyIter v) (PIE X ah σ tg R) X.xe s1)->Post v s1)->wpAny (model X.prog X.w) X.A (eval iter X.env) Post X.xe s):iE X z tg iter g items g1:=
 ⟨λσ H R=>∃As M,S z g σ As M H/\(∀J H' aB M',S z g1 σ aB M' H'->au M H M' H'->Jt J items z.K M' H'->R J H'),λah s σ H R I ⟨As,M,st,k⟩=>h ah s σ As M H _ I st λv s1 q=>q R k,λσ As M H R s k=>⟨As,M,s,k⟩⟩
theorem KZ{lo hi st:Int}(h:cG X z [a,b,c] g [.dat (.int lo),.dat (.int hi),.dat (.int st)] g1)(hg:Gl X "range")(hm:X.mg "range" = none)(hs:starEach [a,b,c] X.env=(false,eval a X.env)::starEach [b,c] X.env)(iu:(backTo rp (starEach [b,c] X.env)).any (·.1)=false)
  (h1 : -(2 ^ 30)<=lo/\lo<2 ^ 30) (h2 : -(2 ^ 30)<=hi/\hi<2 ^ 30) (h3:0<st/\st<2 ^ 30):iE X z tg (.Call (.Name "range" p) [a,b,c] [] rp) g (qE lo st (lF lo hi st)) g1:=by
 refine iE.of λah s σ As M H Post I stt k=>?_
 refine Call_ (gH I hg hm boot_range (aaU (h.run I stt λvs us s1 H1 aM M1 I1 r1 q1 q2 q3=>?_) hs iu))
 cases q3 with
 |dat r R=>
  cases R with
  |dat r' R=>
   cases R with
   |dat r'' R=>
    cases R
    cases r
    cases r'
    cases r''
    cases r1 with
    |cons r rr=>
     cases rr with
     |cons r' rr=>
      cases rr with
      |cons r'' rr=>
       cases rr
       obtain⟨t,rfl⟩:=r
       obtain⟨t',rfl⟩:=r'
       obtain⟨t'',rfl⟩:=r''
       refine call_range_3 (by lia) (k _ _ λR kR=>?_) (.inl (PyProof.noPylong_small (by lia)))
       refine wpAny_pyIter_range (IsRange.new ..) (xO h1 h2 h3) ?_
       generalize hh:s1.heap.push { cls:=.type "range",data:=.fields #[.int lo t,.int hi t',.int st t'']}=hp
       have I2:L2.Inv X ah σ H1 { s1 with heap:=hp}:=I1.kept λb o e=>hh▸aae _ e
       refine⟨hp.objs.size,[hp.objs.size],_,Its lo st (lF lo hi st),H1,rfl,I2.kept (t':=s1.toks) λb o e=>aae _ e,By _ lo st _,?_,λb hb=>?_,kR _ H1 aM M1 q1 q2 Rp⟩
       .
        show IsRangeIter _ _ (lo+((0:Nat):Int) * st) (((lF lo hi st:Nat):Int) - ((0:Nat):Int)) st
        rw[show lo+((0:Nat):Int) * st=lo by simp,show ((lF lo hi st:Nat):Int) - ((0:Nat):Int)=Builtin.Range.rangeSize lo hi st by rw[zE h3.1];simp]
        exact aaq _ rfl
       .
        cases aaC.mp hb
        exact I2.Ae (aal _) (I2.hok.fresh (aal _))
end
open L2 PySem.W SeqAt
section
variable{prog:Program}{w:World}{A:Around}{E:Value->Shared->Prop}{s:Shared}
theorem xP(hit:s.heap.IsTupleIter it t i)(ht:s.heap.IsTuple t items)(hx:items[i]?=some x)(hQ:∀h',h'.IsTupleIter it t (i+1)->Heap.SameBut it s.heap h'->Q x { s with heap:=h'}):wpAny (model prog w) A (Builtin.SmallTypes.nextOf (.ref it)) Q E s:=by
 obtain⟨o,ho,hc,hd⟩:=id hit;obtain⟨ol,YM,_,nl,hdl⟩:=ht
 unfold Builtin.SmallTypes.nextOf
 refine aad (aa5 (name:=Str.ofString "__next__") hit.typeIs abw (abe abw hit.typeIs F.entry_tuple_iterator_next ?_ (F.args_tuple_iterator_next_1 _)))
 show wpAny _ _ (field (.ref it) 0 >>= _) _ _ s
 refine aad (aaR ho hd (x:=.ref t) rfl ?_)
 show wpAny _ _ (if (Value.ref t==Value.none)=true then _ else _) _ _ s
 rw[aau (show ¬ ((Value.ref t==Value.none)=true)from aaF)]
 show wpAny _ _ (field (.ref it) 1 >>= _) _ _ s
 refine aad (aaR ho hd (x:=.int i 0) rfl ?_)
 show wpAny _ _ (seqItems? (.ref t) >>= _) _ _ s
 refine aad (abG YM hdl ?_)
 simp only[abW,hx]
 refine aad (ab1 ho hd (by simp) (aak ⟨x,rfl,aak (hQ _ ⟨_,abi _ ho (abD (abm hd _)),(Obj.cls_mapFields ..).trans hc,?_⟩ (Heap.SameBut.update ..))⟩))
 rw[abm hd];simp[rawInt]
theorem qF(hh:A.handled=none)(hit:s.heap.IsTupleIter it t i)(ht:s.heap.IsTuple t items)(hx:items[i]?=none)
  (hE:∀h' e,Heap.ExtBut it s.heap h'->(∃o,h'.get? e=some o/\o.cls=.type "StopIteration")->E (.ref e) { s with heap:=h'}):wpAny (model prog w) A (Builtin.SmallTypes.nextOf (.ref it)) Q E s:=by
 obtain⟨o,ho,hc,hd⟩:=id hit;obtain⟨ol,YM,_,nl,hdl⟩:=ht
 unfold Builtin.SmallTypes.nextOf
 refine aad (aa5 (name:=Str.ofString "__next__") hit.typeIs abw (abe abw hit.typeIs F.entry_tuple_iterator_next ?_ (F.args_tuple_iterator_next_1 _)))
 show wpAny _ _ (field (.ref it) 0 >>= _) _ _ s
 refine aad (aaR ho hd (x:=.ref t) rfl ?_)
 show wpAny _ _ (if (Value.ref t==Value.none)=true then _ else _) _ _ s
 rw[aau (show ¬ ((Value.ref t==Value.none)=true)from aaF)]
 show wpAny _ _ (field (.ref it) 1 >>= _) _ _ s
 refine aad (aaR ho hd (x:=.int i 0) rfl ?_)
 show wpAny _ _ (seqItems? (.ref t) >>= _) _ _ s
 refine aad (abG YM hdl ?_)
 simp only[abW,hx]
 refine aad (wpAny_rule (aad (ab1 ho hd (by simp) ?_)))
 show wpAny _ _ (newExc (.type "StopIteration") [] >>= _) _ _ _
 refine aad ?_
 simp only[newExc,newTuple]
 refine aad (aaS (aad (m:=firstArgMember _ _) (wpAny_of_eq (a:=Value.none) (by first |rfl | (simp only[firstArgMember];rfl)) (aaS ?_ (by size_fits)))) (by size_fits))
 simp only[raiseNew]
 refine aad (wpAny_handled ?_)
 first |rw[show A.in1.handled=none from hh] |rw[hh]
 exact aad (aak (wpAny_throw (hE _ _ (((Heap.SameBut.update ..).extBut.push _).push _) ⟨_,aaq _ rfl,rfl⟩)))
theorem Rq(hh:A.handled=none)(it t:Addr)(ji:t≠it)(items:Array Value):Draws prog w A it [it,t] items.size (λi v=>items[i]?=some v) (λi h=>h.IsTupleIter it t i/\h.IsTuple t items) where
 live:=λ_ _ st=>let ⟨o,ho,_⟩:=st.1;⟨o,ho⟩
 frame:=λ_ _ _ st hk=>by
  obtain⟨⟨o,ho,r⟩,⟨o',ho',r'⟩⟩:=st
  exact⟨⟨o,hk it (by simp) o ho,r⟩,⟨o',hk t (by simp) o' ho',r'⟩⟩
 item:=λi s Q E hi st hQ=>xP st.1 st.2 (x:=items[i]) (by simp[hi]) λh' hit' hs'=>hQ _ h' s.toks (by simp[hi]) ⟨hit',IsTup.extBut st.2 hs'.extBut ji⟩ hs'
 done:=λs Q E st hE=>qF hh st.1 st.2 (by simp) hE
end
open L2 PySem.W SeqAt
noncomputable def rJ(tp:Bool)(K:Frag)(H:Hp)(a:Addr)(xs:List V):Prop:=match tp with |true=>iA K H a xs |false=>cK K H a xs
def Jg(tp:Bool)(h:Heap)(it a:Addr)(i:Nat):Prop:=match tp with |true=>h.IsTupleIter it a i |false=>h.IsListIter it a i
def YQ(tp:Bool)(h:Heap)(a:Addr)(its:List Value):Prop:=match tp with |true=>h.IsTuple a its.toArray |false=>h.IsList a its.toArray
section
variable{X:Cx}{ah:List (Addr×Obj)}{σ:Sg}{H:Hp}{s:Shared}{tp:Bool}{a it:Addr}{xs:List V}
theorem rJ.real(I:L2.Inv X ah σ H s)(h:rJ tp X.K H a xs):∃its:List Value,Vals xs its/\YQ tp s.heap a its/\xs.length<=sizeLine:=by
 cases tp with
 |true=>exact I.tuple h
 |false=>obtain⟨its,r,pl,hz⟩:=I.list h;exact⟨its,r,pl.isList,hz⟩
theorem rJ.inj(I:L2.Inv X ah σ H s)(h:rJ tp X.K H a xs)(h':rJ tp X.K H a ys):xs=ys:=by
 cases tp with
 |true=>exact I.qR h h'
 |false=>exact I.uG h h'
theorem Jg.obj(x:Jg tp h it a i):∃o vs,h.get? it=some o/\o.data=.fields vs:=by
 cases tp with
 |true=>obtain⟨o,e,_,d⟩:=(show h.IsTupleIter it a i from x);exact⟨o,_,e,d⟩
 |false=>obtain⟨o,e,_,d⟩:=(show h.IsListIter it a i from x);exact⟨o,_,e,d⟩
theorem Jg.keep(x:Jg tp h it a i)(k:∀o,h.get? it=some o->h'.get? it=some o):Jg tp h' it a i:=by
 cases tp with
 |true=>obtain⟨o,e,d⟩:=(show h.IsTupleIter it a i from x);exact⟨o,k o e,d⟩
 |false=>obtain⟨o,e,d⟩:=(show h.IsListIter it a i from x);exact⟨o,k o e,d⟩
theorem tK(hh:A.handled=none)(ji:a≠it)(its:List Value):Draws prog w A it [it,a] its.length (λi v=>its[i]?=some v) (λi h=>Jg tp h it a i/\YQ tp h a its):=by
 cases tp with
 |true=>have:=Rq (prog:=prog) (w:=w) hh it a ji its.toArray;simp only[aag,List.getElem?_toArray]at this;exact this
 |false=>have:=Draws.list (prog:=prog) (w:=w) hh it a ji its.toArray;simp only[aag,List.getElem?_toArray]at this;exact this
end
section
variable{X:Cx}{z:Z}{g g1:G}{p rp pos:Pos}{e:Expr}{es:List Expr}{k:Nat}
end
open L2 PySem.W SeqAt
section
variable{X:Cx}{z:Z}
variable{g g1 g2 g3:G}{pos px py pt wU bM gY pn Ds:Pos}{a b ix U4:Expr}{x y:Str}{i j kt k2:Nat}
theorem Rr(hc:X.calm=true)(hN:X.N.Nodup)(hi:X.N[i]?=some x)(hj:X.N[j]?=some y)(hij:i≠j)(hx:X.env.scope.names.lookup x=some .local)(hy:X.env.scope.names.lookup y=some .local)
  (ha:cG X z [a,b] g [.dat d1,.dat d2] g1) (hbi:i∉z.bor) (hbj:j∉z.bor) (hw:swappedStores [.Tuple [.Name x px,.Name y py] kt pt] (.Tuple [a,b] k2 wU) X.env=pure (some [x,y])) (hs:swapsWithSole [.Tuple [.Name x px,.Name y py] kt pt] (.Tuple [a,b] k2 wU) pos.line X.env=pure false) :
  fU X z (.Assign [.Tuple [.Name x px,.Name y py] kt pt] (.Tuple [a,b] k2 wU) pos) g .nx ((g1.set i (.dat d1)).set j (.dat d2)):=by
 obtain⟨t,q,k⟩:=ha
 refine⟨_,Pn hc hN hi hj hij hx hy q hw hs,λσ As M H E s kk=>k σ As M H _ s λvs H' aB M' s' st R=>?_⟩
 cases R with
 |dat r R=>
  cases R with
  |dat r' R=>
   cases R
   obtain⟨bw,s2⟩:=s'.gK (i:=i) hbi r
   obtain⟨jU,s3⟩:=s2.gK (i:=j) hbj r'
   exact⟨_,_,rfl,kk _ jU M' H' s3 st⟩
theorem BG(hc:X.calm=true)(hK:z.K=X.K)(hN:X.N[i]?=some x)(hv:nI X.env.scope x)(hd:(x==("__debug__" : Str))=false)(bD:(x==("__classdict__" : Str))=false)
  (hN2:X.N[j]?=some y) (hv2:nI X.env.scope y) (hd2:(y==("__debug__" : Str))=false) (Rt:(y==("__classdict__" : Str))=false)
  (h:aA X z e g (.dat (.tup [d1,d2])) g1) (uC:g1[i]?=some (.own l0)) (h2:aA X z ix g1 (.dat (.int n1)) g2) (Wv:g2[i]?=some (.own l)) (hj:qo l.length n1=some m1)
  (hg3:(g2.set i (.own (l.set m1 d1)))[j]?=some (.own l1)) (h3:aA X z U4 (g2.set i (.own (l.set m1 d1))) (.dat (.int n2)) g3) (hg4:g3[j]?=some (.own l2)) (hj2:qo l2.length n2=some m2)
  (ha:∀v,assign (.Subscript (.Name x pn) ix bM) X.env v=(do
   let ov <- holding [v] (eval (.Name x pn) X.env)
   let iv <- holding [v,ov] (eval ix X.env)
   standAt bM
   holding [v,ov,iv] (setItem ov iv v)
   release [v,ov,iv] []))
  (ha2:∀v,assign (.Subscript (.Name y Ds) U4 gY) X.env v=(do
   let ov <- holding [v] (eval (.Name y Ds) X.env)
   let iv <- holding [v,ov] (eval U4 X.env)
   standAt gY
   holding [v,ov,iv] (setItem ov iv v)
   release [v,ov,iv] []))
  (hs:swapsWithSole [.Tuple [.Subscript (.Name x pn) ix bM,.Subscript (.Name y Ds) U4 gY] kt pt] e pos.line X.env=pure false) (hw:swappedStores [.Tuple [.Subscript (.Name x pn) ix bM,.Subscript (.Name y Ds) U4 gY] kt pt] e X.env=pure none) :
  fU X z (.Assign [.Tuple [.Subscript (.Name x pn) ix bM,.Subscript (.Name y Ds) U4 gY] kt pt] e pos) g .nx (g3.set j (.own (l2.set m2 d2))):=by
 obtain⟨t,q,k⟩:=h
 obtain⟨t2,q2,U5⟩:=h2
 obtain⟨t3,q3,k3⟩:=h3
 refine⟨_,wR q (DR (n:=2) hc (n9 (wQ (dQ hN hv hd bD) q2 set_list ha) (n9 (wQ (dQ hN2 hv2 hd2 Rt) q3 set_list ha2) yR rfl) rfl) rfl rfl) hs hw rfl,λσ As M H E s kE=>k σ As M H _ s λv H1 aM M1 s1 cO R1=>?_⟩
 have WY:Rep z.K M1 H1 (.tup [d1,d2]) v:=R1
 cases WY with
 |@tup _ a xs ha rr=>
  cases rr with
  |@cons _ _ v1 _ r1 rr=>
   cases rr with
   |@cons _ _ v2 _ r2 rr=>
    cases rr
    refine⟨a,_,rfl,hK▸ha.sq,rfl,v1,_,rfl,?_⟩
    obtain⟨p,ys,e1,e2,e3,e4⟩:=s1.sl.at uC
    refine⟨.ref p,e1,U5 σ aM M1 H1 _ s1 λw H2 bw M2 s2 aU R2=>?_⟩
    obtain⟨p',ys',f1,f2,f3,f4⟩:=s2.sl.at Wv
    rw[e1]at f1
    injection f1 with f1;injection f1 with f1;injection f1 with f1
    subst f1
    have R2':Rep z.K M2 H2 (.int n1) w:=R2
    cases R2'
    refine⟨p,ys',n1,m1,rfl,rfl,f3,by rw[<- f4.length];exact hj,?_⟩
    obtain⟨s3,gF⟩:=s2.write Wv e1 (aI.set (Rep.stay aU r1) m1 f4)
    refine⟨v2,[],rfl,?_⟩
    obtain⟨p2,zs,e5,e6,e7,e8⟩:=s3.sl.at hg3
    refine⟨.ref p2,e5,k3 σ bw M2 _ _ s3 λw' H4 nq M4 s4 rB R4=>?_⟩
    obtain⟨p2',zs',f5,f6,f7,f8⟩:=s4.sl.at hg4
    rw[e5]at f5
    injection f5 with f5;injection f5 with f5;injection f5 with f5
    subst f5
    have R4':Rep z.K M4 H4 (.int n2) w':=R4
    cases R4'
    refine⟨p2,zs',n2,m2,rfl,rfl,f7,by rw[<- f8.length];exact hj2,?_⟩
    obtain⟨s5,uI⟩:=s4.write hg4 e5 (aI.set (Rep.stay (aU.trans (gF.trans rB)) r2) m2 f8)
    exact⟨rfl,kE σ nq M4 _ s5 (cO.trans (aU.trans (gF.trans (rB.trans uI))))⟩
end
end Ev
namespace HT
open PySem PyProof.Rows
section
variable{prog:Program}{w:World}{A:Around}{E:Value->Shared->Prop}{s:Shared}
theorem xQ(n:Nat):Builtin.Slice.sliceAdjust none none (-1) (n:Int)=((n:Int) - 1,-1):=rfl
theorem xR(n:Nat):Builtin.Slice.slicePlaces ((n:Int) - 1) (-1) (-1)=n:=by
 unfold Builtin.Slice.slicePlaces
 rw[aau (by decide),show (- -1:Int)=1 from by decide,Int.ediv_one]
 split <;> lia
theorem lG{sl:Addr}{vs:Value}{n:Nat}{Q:Int×Int×Nat->Shared->Prop}(hs:s.heap.IsSliceOf sl .none .none vs)(ps:IsPart vs (some (-1)))
  (h:Q ((n:Int) - 1,-1,n) s):wpAny (model prog w) A (Builtin.Slice.sliceApplied (.ref sl) (pure (n:Int))) Q E s:=by
 obtain⟨os,hos,hcs,hds⟩:=id hs
 unfold Builtin.Slice.sliceApplied Builtin.Slice.sliceFields
 refine aad (aad (aaR hos hds (x:=.none) rfl (aad (aaR hos hds (x:=.none) rfl (aad (aaR hos hds (x:=vs) rfl (aak ?_)))))))
 refine aad (jA ps ?_)
 show wpAny _ _ (if ((-1:Int)==0)=true then _ else _) _ _ s
 rw[aau (by decide)]
 refine aad (slicePart_none (aad (slicePart_none (aad (aak ?_)))))
 show wpAny _ _ (match Builtin.Slice.sliceAdjust none none (-1) (n:Int)with | (lo,hi)=>pure (lo,(-1:Int),Builtin.Slice.slicePlaces lo hi (-1))) _ _ s
 rw[xQ n]
 show wpAny _ _ (pure ((n:Int) - 1,(-1:Int),Builtin.Slice.slicePlaces ((n:Int) - 1) (-1) (-1))) _ _ s
 rw[xR]
 exact aak h
theorem Gn(xs:Array Value):((List.range xs.size).filterMap λ(m:Nat)=>xs[(((xs.size:Int) - 1)+(m:Int) * -1).toNat]?).toArray=xs.toList.reverse.toArray:=by
 have e:(λ(m:Nat)=>xs[(((xs.size:Int) - 1)+(m:Int) * -1).toNat]?)=λm=>xs[xs.size - 1 - m]?:=by
  funext m
  congr 1
  lia
 rw[e]
 have e2:(List.range xs.size).filterMap (λm=>xs[xs.size - 1 - m]?)=((List.range xs.size).map λk=>xs.size - 1 - k).filterMap (xs[·]?):=by
  rw[List.filterMap_map];rfl
 rw[e2,PySem.W.krv_range,List.filterMap_reverse,PySem.W.krv_all]
theorem kr(ht:IsTup s.heap t items)(hs:s.heap.IsSliceOf sl .none .none vs)(ps:IsPart vs (some (-1)))
  (h:Q (.ref s⁻¹) { s with heap:=s.heap.push { cls:=.type "tuple",data:=.seq items.toList.reverse.toArray}})
  (jS:items.size<=sizeLine):wpAny (model prog w) A (getItem (.ref t) (.ref sl)) Q E s:=by
 have j4:sizeOk (.seq items.toList.reverse.toArray):=by
  show items.toList.reverse.toArray.size<=sizeLine
  rw[aag,ab4,aa9]
  exact jS
 obtain⟨os,hos,hcs,hds⟩:=id hs
 have V7:s.TypeIs (.ref sl) "slice" :=⟨os,hos,hcs⟩
 unfold getItem
 try with_reducible refine aa8 ?_
 first |refine aad (aak ?_) |skip
 refine aad (wpAny_sequenceKey ht.typeIs (by decide) ?_)
 refine aad (aa5 (name:=Str.ofString "__getitem__") ht.typeIs aaW
  (abe aaW ht.typeIs entry_tuple_getitem ?_ (args_tuple_getitem _ _)))
 show wpAny _ _ (Builtin.Tuple.tupleItemsOf (.ref t) >>= _) _ _ s
 refine aad (tupleItemsOf_ ht ?_)
 refine aad (wpAny_typeOf V7 ?_)
 rw[aav (by decide)]
 refine aad (lG hs ps ?_)
 show wpAny _ _ (if ((items.size:Int) - 1==0&&(-1:Int)==1&&items.size==items.size)=true then _ else _) _ _ s
 rw[aau (by intro q;rw[aao,aao]at q;exact absurd (eq_of_beq q.1.2) (by decide)),Gn]
 first
  |exact aad (m:=Builtin.Tuple.tupleExact _) (aaS (aak ⟨_,rfl,aak h⟩) j4)
  |exact aad (m:=Builtin.Tuple.tupleExact _) (aaS (aad (aak (aak ⟨_,rfl,aak h⟩))) j4)
  |exact aad (aad (m:=Builtin.Tuple.tupleExact _) (aaS (aak (aak ⟨_,rfl,aak h⟩)) j4))
  |exact aad (aad (m:=Builtin.Tuple.tupleExact _) (aaS (aak ⟨_,rfl,aak h⟩) j4))
end
end HT
namespace Ev
open L2
section
variable{X:Cx}{z:Z}{g g1:G}{a:Expr}{p1 p2 p3 pos:Pos}{j:Nat}
noncomputable abbrev m1(j:Nat)(p1 p3:Pos):Expr:=.UnaryOp .USub (.Constant (.int 1) j p1) p3
theorem Gp{e:Expr}{te:TE}{r:V->Hp->VK->Prop}(he:PE X e te)
  (hr:∀(ah:List (Addr×Obj)) (s:Shared) (σ:L2.St) (H:Hp) (x:V) (v vs:Value) (sl:Addr) (Q:VK),L2.Inv X ah σ H s->RelV x v->s.heap.IsSliceOf sl .none .none vs->IsPart vs (some (-1))->r x H Q->
   ∃T id,typeLookup (.type T) "__getitem__" = pure (some (.builtin id))/\s.TypeIs v T/\wpAny (model X.prog X.w) X.A (getItem v (.ref sl)) (EP X ah σ Q) X.xe s)
  (pm:∀(ah:List (Addr×Obj)) (s:Shared) (σ:L2.St) (H:Hp),L2.Inv X ah σ H s->wpAny (model X.prog X.w) X.A (eval (m1 j p1 p3) X.env) (λu s'=>L2.Inv X ah σ H s'/\IsPart u (some (-1))) X.xe s) :
  PE X (.Subscript e (.Slice none none (some (m1 j p1 p3)) p2) pos) (λσ H Q=>te σ H λx H1=>r x H1 Q):=by
 intro ah s σ H Q I h
 refine Subscript_ (bN (he ah s σ H _ I h) λv s1 ⟨x,H1,I1,r1,q1⟩=>?_)
 refine wpAny_Slice ?_
 rw[evalPart_none]
 refine aak (aak ?_)
 refine PySem.evalPart_some_step (bN (pm ah s1 σ H1 I1) λu s2 ⟨I2,pu⟩=>?_)
 have I4:L2.Inv X ah σ H1 { s2 with heap:=s2.heap.push { cls:=.type "slice",data:=.fields #[.none,.none,u]}}:=I2.kept (t':=s2.toks) λb ob q=>aae _ q
 obtain⟨T,id,hT,ht,hg⟩:=hr ah { s2 with heap:=s2.heap.push { cls:=.type "slice",data:=.fields #[.none,.none,u]}} σ H1 x v u s2⁻¹ Q I4 r1 (Heap.IsSliceOf.new ..) pu q1
 show wpAny (model X.prog X.w) X.A (subscriptTail e (.Slice none none (some (m1 j p1 p3)) p2) v (.ref s2⁻¹)) (EP X ah σ Q) X.xe { s2 with heap:=s2.heap.push { cls:=.type "slice",data:=.fields #[.none,.none,u]}}
 exact tail_any (ops:=[v,.ref s2⁻¹]) ht hT hg (by with_unfolding_all rfl)
theorem pm1(ah:List (Addr×Obj))(s:Shared)(σ:L2.St)(H:Hp)(I:L2.Inv X ah σ H s):wpAny (model X.prog X.w) X.A (eval (m1 j p1 p3) X.env) (λu s'=>L2.Inv X ah σ H s'/\IsPart u (some (-1))) X.xe s:=
 bN ((NQ (pos:=p3) DT (DK (i:=1) (j:=j) (pos:=p1))) ah s σ H (λv H'=>v=.int (-1)/\H'=H) I ⟨1,rfl,rfl,rfl⟩) λu s' ⟨v,H',I',r,e1,e2⟩=>by
  subst e1 e2
  obtain⟨t,rfl⟩:=r
  exact⟨I',.int _ t⟩
theorem K1{r:R}{l:List D}(hK:z.K=X.K)(h:aA X z a g r g1)(hp:pk r g1=some (.lst l)):aA X z (.Subscript a (.Slice none none (some (m1 j p1 p3)) p2) pos) g (.new l.reverse) g1:=by
 obtain⟨t,q,k⟩:=h
 refine⟨_,Gp (r:=λx H Q=>∃b xs,x=.ref b/\cK X.K H b xs/\∀p,H p=none->Q (.ref p) (upd H p (.lst xs.reverse))) q (λah s σ H x v vs sl Q I rx hs ps hx=>?_) pm1,λσ As M H Q s kk=>k σ As M H _ s λv H1 aM M1 s1 cO R=>?_⟩
 .
  obtain⟨b,xs,rfl,hx,hq⟩:=hx
  cases rx
  obtain⟨its,r,ht,hz⟩:=I.list hx
  have aL:=r.length
  refine⟨"list",_,slot_list_getitem.lookup,ht.isList.typeIs,?_⟩
  refine wpAny_getItem_list_slice ht.isList hs .none .none ps (by decide) ?_ (by rw[aag,<- aL];exact hz)
  rw[PySem.W.krv_pick]
  refine⟨.ref s⁻¹,_,I.laid (t':=s.toks) (o:=.lst xs.reverse) (λb ob q=>aae _ q) (aal _) ?_,rfl,hq _ (I.hok.fresh (aal _))⟩
  exact⟨by rw[ab4];exact hz,its.reverse,0,r.reverse,aaq _ rfl⟩
 .
  obtain⟨b,xs,rfl,e1,e2⟩:=(s1.pk (au.refl _ _) R hp).list
  refine⟨b,xs,rfl,cK.of e1,λp hp=>?_⟩
  exact kk _ _ aM (p::M1) (s1.aZ hp) (cO.trans (au.aZ hp)) ⟨p,xs.reverse,rfl,aah,λhA=>s1.fresh hp (s1.sub p hA),s1.cQ hp,aE,e2.reverse.stay (au.aZ hp)⟩
theorem K3{l:List D}(hK:z.K=X.K)(h:aA X z a g (.dat (.tup l)) g1):aA X z (.Subscript a (.Slice none none (some (m1 j p1 p3)) p2) pos) g (.dat (.tup l.reverse)) g1:=by
 obtain⟨t,q,k⟩:=h
 refine⟨_,Gp (r:=λx H Q=>∃b xs,x=.ref b/\iA X.K H b xs/\∀p,H p=none->Q (.ref p) (upd H p (.tup xs.reverse))) q (λah s σ H x v vs sl Q I rx hs ps hx=>?_) pm1,λσ As M H Q s kk=>k σ As M H _ s λv H1 aM M1 s1 cO R=>?_⟩
 .
  obtain⟨b,xs,rfl,hx,hq⟩:=hx
  cases rx
  obtain⟨its,r,ht,hz⟩:=I.tuple hx
  have aL:=r.length
  refine⟨"tuple",_,PyProof.Rows.slot_tuple_getitem.lookup,ht.typeIs,?_⟩
  refine HT.kr ht hs ps ?_ (by rw[aag,<- aL];exact hz)
  refine⟨.ref s⁻¹,_,I.laid (t':=s.toks) (o:=.tup xs.reverse) (λb ob q=>aae _ q) (aal _) ?_,rfl,hq _ (I.hok.fresh (aal _))⟩
  exact⟨by rw[ab4];exact hz,its.reverse,r.reverse,fK.new _ _⟩
 .
  cases R with
  |@tup _ b xs e1 e2=>exact⟨b,xs,rfl,hK▸e1.sq,λp hp=>kk _ _ aM M1 (s1.laid hp) (cO.trans (au.laid hp)) (.tup (.inl ⟨s1.fresh hp,.inl aE⟩) (e2.reverse.stay (au.laid hp)))⟩
theorem Ru:aA X z (.Dict [] [] pos) g (.dat .emp) g:=by
 refine⟨λσ H Q=>∀p,H p=none->Q (.ref p) (upd H p (.dK [])),λah s σ H Q I h=>wpAny_Dict_empty ⟨.ref s⁻¹,_,I.laid (t':=s.toks) (o:=.dK []) (λb ob q=>aae _ q) (aal _) ?_,rfl,h _ (I.hok.fresh (aal _))⟩,λσ As M H Q s k p hp=>k _ _ As M (s.laid hp) (au.laid hp) (.emp (s.fresh hp) aE)⟩
 refine⟨abf _,?_,[],?_,Heap.DictOf.new _⟩
 .
  have h1:mainGlobals<s⁻¹:=(I.ok.mod.glob.keeps I.bk).lt
  refine Bool.eq_false_iff.mpr λq=>?_
  have q:=eq_of_beq q
  rw[q]at h1
  exact absurd h1 (by decide)
 .
  exact .nil
end
open L2 PySem.W SeqAt
section
variable{prog:Program}{w:World}{A:Around}{E:Value->Shared->Prop}{s:Shared}
structure U6(r tI tO i j a b:Addr):Prop where
 n1:tI≠r/\tO≠r/\i≠r/\j≠r/\a≠r/\b≠r
 n2:tI≠tO/\i≠tO/\j≠tO/\a≠tO/\b≠tO
 n3:tI≠i/\tI≠j/\i≠j
 n4:a≠i/\b≠i/\a≠j/\b≠j
section
variable{r tI tO i j a b:Addr}{n m:Nat}{f g:Nat->Value->Prop}{S1 S2:Nat->Heap->Prop}{k:Nat}{c d:Value}
theorem Gq{Q:Value->Shared->Prop}(N:U6 r tI tO i j a b)(D1:Draws prog w A i [i,a] n f S1)(D2:Draws prog w A j [j,b] m g S2)(hk1:k<n)(hk2:k<m)
  (er:IsZip s.heap r tI tO .none) (eI:IsPair s.heap tI (.ref i) (.ref j)) (eO:IsPair s.heap tO c d) (t1:S1 k s.heap) (t2:S2 k s.heap)
  (hQ:∀u v h' tk,f k u->g k v->IsZip h' r tI tO (rawInt s⁻¹)->IsPair h' tO u v->S1 (k+1) h'->S2 (k+1) h'->IsPair h' s⁻¹ u v->h'.objs.size=s⁻¹+1->
   (∀x o,x≠r->x≠tO->x≠i->x≠j->s.heap.get? x=some o->h'.get? x=some o)->Q (.ref s⁻¹) { s with heap:=h',toks:=tk}) :
  wpAny (model prog w) A (Builtin.«zip.__next__» ⟨[.ref r],[]⟩) (λfin s'=>∃v,fin=.done (.ret v)/\Q v s') E s:=by
 obtain⟨⟨p1,p2,p3,p4,p5,p6⟩,⟨q1,q2,q3,q4,q5⟩,⟨u1,u2,u3⟩,⟨v1,v2,v3,v4⟩⟩:=N
 refine aad (m:=field (.ref r) 2) (aaR er rfl (x:=.bool false) rfl ?_)
 refine aad (m:=field (.ref r) 3) (aaR er rfl (x:=.ref tI) rfl (aad (abG eI rfl ?_)))
 refine aad (m:=Builtin.SmallTypes.ownedTupleIsFree (.ref r)) ?_
 unfold Builtin.SmallTypes.ownedTupleIsFree
 refine aad (aaR er rfl (x:=.none) rfl (aak ?_))
 simp only[abM]
 refine aad (wpAny_rule (aad (aaR er rfl (x:=.ref tO) rfl (aad (abE er (by simp) λha Jh ka=>?_)))))
 replace Jh:IsZip ha r tI tO .ellipsis:=Jh
 refine aad ?_
 simp only[List.zipIdx_cons,List.zipIdx_nil,List.forIn_cons,List.forIn_nil]
 have YS:S1 k ha:=D1.frame k _ _ t1 λx hx o e=>(ka.2 x (by rcases aaj.mp hx with z |z;exact z▸p3;exact (aaC.mp z)▸p5)).trans e
 have t2a:S2 k ha:=D2.frame k _ _ t2 λx hx o e=>(ka.2 x (by rcases aaj.mp hx with z |z;exact z▸p4;exact (aaC.mp z)▸p6)).trans e
 refine aad (aad (wpAny_onRaise (aad (m:=Builtin.SmallTypes.nextOf (.ref i)) (D1.item k { s with heap:=ha} _ _ hk1 YS λu hb K4 fu t1b kb=>aak ?_))))
 have kb:Heap.SameBut i ha hb:=kb
 have W0:IsPair hb tO c d:=(kb.2 _ (aaX q2)).trans ((ka.2 _ p2).trans eO)
 refine aad (abG (s:={ s with heap:=hb,toks:=K4}) W0 rfl (aad (wpAny_updateSeq_pair (s:={ s with heap:=hb,toks:=K4}) W0 λhc YT kc=>?_)))
 replace YT:IsPair hc tO u d:=YT
 have kc:Heap.SameBut tO hb hc:=kc
 refine aad (wpAny_letGo (aak ?_))
 have t1c:S1 (k+1) hc:=D1.frame _ _ _ t1b λx hx o e=>(kc.2 x (by rcases aaj.mp hx with z |z;exact z▸q2;exact (aaC.mp z)▸q4)).trans e
 have t2c:S2 k hc:=D2.frame k _ _ t2a λx hx o e=>by
  have hx:x=j\/x=b:=by rcases aaj.mp hx with z |z;exact .inl z;exact .inr (aaC.mp z)
  rw[kc.2 x (by rcases hx with rfl |rfl;exact q3;exact q5),kb.2 x (by rcases hx with rfl |rfl;exact aaX u3;exact v2)]
  exact e
 refine aad (aad (wpAny_onRaise (aad (m:=Builtin.SmallTypes.nextOf (.ref j)) (D2.item k { s with heap:=hc,toks:=K4} _ _ hk2 t2c λv hd YW gv t2d kd=>aak ?_))))
 have kd:Heap.SameBut j hc hd:=kd
 have eOd:IsPair hd tO u d:=(kd.2 _ (aaX q3)).trans YT
 refine aad (abG (s:={ s with heap:=hd,toks:=YW}) eOd rfl (aad (wpAny_updateSeq_pair (s:={ s with heap:=hd,toks:=YW}) eOd λhe YX ke=>?_)))
 replace YX:IsPair he tO u v:=YX
 have ke:Heap.SameBut tO hd he:=ke
 refine aad (wpAny_letGo (aak (aak ?_)))
 refine aad (abG (s:={ s with heap:=he,toks:=YW}) YX rfl (aad (wpAny_newTuple ?_)))
 have sz:he.objs.size=s⁻¹:=by rw[ke.1,kd.1,kc.1,kb.1];exact ka.1
 have ere:IsZip he r tI tO .ellipsis:=by
  show he.get? r=_
  rw[ke.2 _ (aaX p2),kd.2 _ (aaX p4),kc.2 _ (aaX p2),kb.2 _ (aaX p3)];exact Jh
 have old:∀x o,x≠r->x≠tO->x≠i->x≠j->s.heap.get? x=some o->he.get? x=some o:=λx o x1 x2 x3 x4 e=>by
  rw[ke.2 _ x2,kd.2 _ x4,kc.2 _ x2,kb.2 _ x3];exact (ka.2 _ x1).trans e
 have t1e:S1 (k+1) he:=D1.frame _ _ _ t1c λx hx o e=>by
  have hx:x=i\/x=a:=by rcases aaj.mp hx with z |z;exact .inl z;exact .inr (aaC.mp z)
  rw[ke.2 x (by rcases hx with rfl |rfl;exact q2;exact q4),kd.2 x (by rcases hx with rfl |rfl;exact u3;exact v3)]
  exact e
 have t2e:S2 (k+1) he:=D2.frame _ _ _ t2d λx hx o e=>(ke.2 x (by rcases aaj.mp hx with z |z;exact z▸q3;exact (aaC.mp z)▸q5)).trans e
 refine aad (m:=Builtin.SmallTypes.ownedTupleHandOut (.ref r) (.ref he.objs.size)) ?_
 unfold Builtin.SmallTypes.ownedTupleHandOut
 have erf:IsZip (he.push { cls:=.type "tuple",data:=.seq #[u,v]}) r tI tO .ellipsis:=aae _ ere
 refine aad (abE erf (by simp) λhg erg kg=>?_)
 replace erg:IsZip hg r tI tO (rawInt he.objs.size):=erg
 refine abE erg (by simp) λhh YZ kh=>?_
 replace YZ:IsZip hh r tI tO (rawInt he.objs.size):=YZ
 have kg:Heap.SameBut r (he.push { cls:=.type "tuple",data:=.seq #[u,v]}) hg:=kg
 have kh:Heap.SameBut r hg hh:=kh
 have up:∀x o,x≠r->he.get? x=some o->hh.get? x=some o:=λx o x1 e=>by rw[kh.2 _ x1,kg.2 _ x1];exact aae _ e
 have rlt:r<he.objs.size:=aas ere
 have new:IsPair hh he.objs.size u v:=by
  show hh.get? _=_
  rw[kh.2 _ (abK rlt),kg.2 _ (abK rlt)];exact aaq _ rfl
 have szh:hh.objs.size=he.objs.size+1:=by rw[kh.1,kg.1,abQ]
 have fr1:∀x o,x=i\/x=a->he.get? x=some o->hh.get? x=some o:=λx o hx e=>up x o (by rcases hx with rfl |rfl;exact p3;exact p5) e
 have fr2:∀x o,x=j\/x=b->he.get? x=some o->hh.get? x=some o:=λx o hx e=>up x o (by rcases hx with rfl |rfl;exact p4;exact p6) e
 rw[sz]at YZ new szh
 refine aak ⟨_,rfl,?_⟩
 show Q (.ref he.objs.size) _
 rw[sz]
 exact hQ u v hh YW fu gv YZ (up _ _ p2 YX) (D1.frame _ _ _ t1e λx hx o e=>fr1 x o (by rcases aaj.mp hx with z |z;exact .inl z;exact .inr (aaC.mp z)) e)
  (D2.frame _ _ _ t2e λx hx o e=>fr2 x o (by rcases aaj.mp hx with z |z;exact .inl z;exact .inr (aaC.mp z)) e) new szh λx o x1 x2 x3 x4 e=>up x o x1 (old x o x1 x2 x3 x4 e)
theorem K5(N:U6 r tI tO i j a b)(D1:Draws prog w A i [i,a] n f S1)(D2:Draws prog w A j [j,b] m g S2)(hk:k=n\/(k<n/\k=m))
  (er:IsZip s.heap r tI tO .none) (eI:IsPair s.heap tI (.ref i) (.ref j)) (eO:IsPair s.heap tO c d) (t1:S1 k s.heap) (t2:S2 k s.heap)
  (hE:∀h' e tk,(∀x o,x≠r->x≠tO->x≠i->x≠j->s.heap.get? x=some o->h'.get? x=some o)->(∃o,h'.get? e=some o/\o.cls=.type "StopIteration")->E (.ref e) { s with heap:=h',toks:=tk}) :
  wpAny (model prog w) A (Builtin.«zip.__next__» ⟨[.ref r],[]⟩) Q E s:=by
 obtain⟨⟨p1,p2,p3,p4,p5,p6⟩,⟨q1,q2,q3,q4,q5⟩,⟨u1,u2,u3⟩,⟨v1,v2,v3,v4⟩⟩:=N
 refine aad (m:=field (.ref r) 2) (aaR er rfl (x:=.bool false) rfl ?_)
 refine aad (m:=field (.ref r) 3) (aaR er rfl (x:=.ref tI) rfl (aad (abG eI rfl ?_)))
 refine aad (m:=Builtin.SmallTypes.ownedTupleIsFree (.ref r)) ?_
 unfold Builtin.SmallTypes.ownedTupleIsFree
 refine aad (aaR er rfl (x:=.none) rfl (aak ?_))
 simp only[abM]
 refine aad (wpAny_rule (aad (aaR er rfl (x:=.ref tO) rfl (aad (abE er (by simp) λha Jh ka=>?_)))))
 replace Jh:IsZip ha r tI tO .ellipsis:=Jh
 refine aad ?_
 simp only[List.zipIdx_cons,List.zipIdx_nil,List.forIn_cons,List.forIn_nil]
 have YS:S1 k ha:=D1.frame k _ _ t1 λx hx o e=>(ka.2 x (by rcases aaj.mp hx with z |z;exact z▸p3;exact (aaC.mp z)▸p5)).trans e
 have t2a:S2 k ha:=D2.frame k _ _ t2 λx hx o e=>(ka.2 x (by rcases aaj.mp hx with z |z;exact z▸p4;exact (aaC.mp z)▸p6)).trans e
 have stop:∀(hb:Heap) (e:Addr) (tk:Nat),IsZip hb r tI tO .ellipsis->(∃o,hb.get? e=some o/\o.cls=.type "StopIteration")->e≠r:=λhb e tk z ⟨o,h1,h2⟩ q=>by
  rw[q,z]at h1;cases h1;exact absurd (show Value.type "zip" = .type "StopIteration" from h2) (by decide)
 rcases hk with rfl |⟨hk1,rfl⟩
 .
  refine aad (aad (wpAny_onRaise (aad (m:=Builtin.SmallTypes.nextOf (.ref i)) (D1.done { s with heap:=ha} _ _ YS λhb e kb ex=>?_))))
  have kb:Heap.ExtBut i ha hb:=kb
  have erb:IsZip hb r tI tO .ellipsis:=kb _ _ (aaX p3) Jh
  have ner:=stop hb e s.toks erb ex
  obtain⟨oe,x1,x2⟩:=ex
  refine abE (s:={ s with heap:=hb}) erb (by simp) λhc _ kc=>?_
  have kc:Heap.SameBut r hb hc:=kc
  exact hE hc e s.toks (λx o y1 y2 y3 y4 z=>(kc.2 _ y1).trans (kb _ _ y3 ((ka.2 _ y1).trans z))) ⟨oe,(kc.2 _ ner).trans x1,x2⟩
 .
  refine aad (aad (wpAny_onRaise (aad (m:=Builtin.SmallTypes.nextOf (.ref i)) (D1.item k { s with heap:=ha} _ _ hk1 YS λu hb K4 fu t1b kb=>aak ?_))))
  have kb:Heap.SameBut i ha hb:=kb
  have W0:IsPair hb tO c d:=(kb.2 _ (aaX q2)).trans ((ka.2 _ p2).trans eO)
  refine aad (abG (s:={ s with heap:=hb,toks:=K4}) W0 rfl (aad (wpAny_updateSeq_pair (s:={ s with heap:=hb,toks:=K4}) W0 λhc YT kc=>?_)))
  have kc:Heap.SameBut tO hb hc:=kc
  refine aad (wpAny_letGo (aak ?_))
  have t2c:S2 k hc:=D2.frame k _ _ t2a λx hx o e=>by
   have hx:x=j\/x=b:=by rcases aaj.mp hx with z |z;exact .inl z;exact .inr (aaC.mp z)
   rw[kc.2 x (by rcases hx with rfl |rfl;exact q3;exact q5),kb.2 x (by rcases hx with rfl |rfl;exact aaX u3;exact v2)]
   exact e
  refine aad (aad (wpAny_onRaise (aad (m:=Builtin.SmallTypes.nextOf (.ref j)) (D2.done { s with heap:=hc,toks:=K4} _ _ t2c λhd e kd ex=>?_))))
  have kd:Heap.ExtBut j hc hd:=kd
  have erd:IsZip hd r tI tO .ellipsis:=kd _ _ (aaX p4) (by rw[kc.2 _ (aaX p2),kb.2 _ (aaX p3)];exact Jh)
  have ner:=stop hd e s.toks erd ex
  obtain⟨oe,x1,x2⟩:=ex
  refine abE (s:={ s with heap:=hd,toks:=K4}) erd (by simp) λhe _ ke=>?_
  have ke:Heap.SameBut r hd he:=ke
  exact hE he e K4 (λx o y1 y2 y3 y4 z=>(ke.2 _ y1).trans (kd _ _ y4 (by rw[kc.2 _ y2,kb.2 _ y3];exact (ka.2 _ y1).trans z))) ⟨oe,(ke.2 _ ner).trans x1,x2⟩
end
section
variable{r tI tO i j a b:Addr}{n m:Nat}{f g:Nat->Value->Prop}{S1 S2:Nat->Heap->Prop}{k:Nat}{c d:Value}
theorem Gr{Q:Option Value->Shared->Prop}(N:U6 r tI tO i j a b)(D1:Draws prog w A.in1 i [i,a] n f S1)(D2:Draws prog w A.in1 j [j,b] m g S2)(hk1:k<n)(hk2:k<m)
  (er:IsZip s.heap r tI tO .none) (eI:IsPair s.heap tI (.ref i) (.ref j)) (eO:IsPair s.heap tO c d) (t1:S1 k s.heap) (t2:S2 k s.heap)
  (hQ:∀u v h' tk,f k u->g k v->IsZip h' r tI tO (rawInt s⁻¹)->IsPair h' tO u v->S1 (k+1) h'->S2 (k+1) h'->IsPair h' s⁻¹ u v->h'.objs.size=s⁻¹+1->
   (∀x o,x≠r->x≠tO->x≠i->x≠j->s.heap.get? x=some o->h'.get? x=some o)->Q (some (.ref s⁻¹)) { s with heap:=h',toks:=tk}):wpAny (model prog w) A (pyNext (.ref r)) Q E s:=by
 have ty:s.TypeIs (.ref r) "zip" :=⟨_,er,rfl⟩
 unfold pyNext
 exact aad (wpAny_attempt (aa5 (name:=Str.ofString "__next__") ty F.slot_zip_next (abe F.slot_zip_next ty F.entry_zip_next
  (Gq N D1 D2 hk1 hk2 er eI eO t1 t2 λu v h' tk b1 b2 b3 b4 b5 b6 b7 b8 b9=>aak (hQ u v h' tk b1 b2 b3 b4 b5 b6 b7 b8 b9)) (F.args_zip_next_1 _))))
theorem vm(N:U6 r tI tO i j a b)(D1:Draws prog w A.in1 i [i,a] n f S1)(D2:Draws prog w A.in1 j [j,b] m g S2)(hk:k=n\/(k<n/\k=m))
  (er:IsZip s.heap r tI tO .none) (eI:IsPair s.heap tI (.ref i) (.ref j)) (eO:IsPair s.heap tO c d) (t1:S1 k s.heap) (t2:S2 k s.heap)
  (hQ:∀h' tk,(∀x o,x≠r->x≠tO->x≠i->x≠j->s.heap.get? x=some o->h'.get? x=some o)->Q none { s with heap:=h',toks:=tk}):wpAny (model prog w) A (pyNext (.ref r)) Q E s:=by
 have ty:s.TypeIs (.ref r) "zip" :=⟨_,er,rfl⟩
 unfold pyNext
 refine aad (wpAny_attempt (aa5 (name:=Str.ofString "__next__") ty F.slot_zip_next (abe F.slot_zip_next ty F.entry_zip_next
  (K5 N D1 D2 hk er eI eO t1 t2 λh' e tk kp ex=>?_) (F.args_zip_next_1 _))))
 obtain⟨o,x1,x2⟩:=ex
 exact aad (wpAny_isInstance (T:= "StopIteration") (b:=true) ⟨o,x1,x2⟩ isSubtype_stop (aak (hQ _ tk kp)))
end
end
open L2 PySem.W SeqAt
section
variable{X:Cx}{ah:List (Addr×Obj)}{σ:Sg}{H:Hp}{s:Shared}
theorem Inv.Rv{h':Heap}{t':Nat}{ch:List Addr}(I:L2.Inv X ah σ H s)(hf:∀b∈ch,kY X ah H b)(k:∀b o,b∉ch->s.heap.get? b=some o->h'.get? b=some o):L2.Inv X ah σ H { s with heap:=h',toks:=t'}:=by
 have nH:∀b u,H b=some u->b∉ch:=λb u e z=>by rw[(hf b z).1]at e;cases e
 refine I.step (g':=s.gens) (d':=s.drawn) (ch:=ch) (λb hb=>?_) (λb o _ _ hc e _=>k b o hc e) (λb o _ _ hc e _=>⟨o.slots,k b o hc e⟩) (λ_ _ _ _ n=>n) (λb o hc e=>⟨o,k b o hc e⟩) (λ_ _ e=>e) (λ_ _ _ e=>e) (λb ps e=>⟨#[],by rw[e];simp⟩) (λm hm=>?_) (λb u e=>?_) I.bare
 .
  obtain⟨f0,f1,f2,f3,f4,f5⟩:=hf b hb
  exact⟨f3,f1,f4,f5⟩
 .
  obtain⟨o,es,ep,ho,rr⟩:=hm
  exact⟨o,es,ep,k _ o (λz=>(hf _ z).2.1 rfl) ho,rr⟩
 .
  refine (I.hok b u e).stay (λc w hc q=>k c w (λz=>?_) q) (λ_ q=>q) λ_ _ q=>q
  rcases hc with rfl |hc
  .
   exact nH _ _ e z
  .
   exact nH _ _ hc z
theorem Inv.Rw{h':Heap}{t':Nat}{ch:List Addr}{xs:List V}{its:List Value}(I:L2.Inv X ah σ H s)(hf:∀b∈ch,kY X ah H b)(k:∀b o,b∉ch->s.heap.get? b=some o->h'.get? b=some o)(hz:xs.length<=sizeLine)(rv:Vals xs its)(ht:fK h' s⁻¹ its.toArray) :
  L2.Inv X ah σ (upd H s⁻¹ (.tup xs)) { s with heap:=h',toks:=t'}:=by
 have nH:∀b u,H b=some u->b∉ch:=λb u e z=>by rw[(hf b z).1]at e;cases e
 have fr:H s⁻¹=none:=I.hok.fresh (aal _)
 have nn:∀b u,H b=some u->b≠s⁻¹:=λb u e z=>by rw[z,fr]at e;cases e
 refine I.step (g':=s.gens) (d':=s.drawn) (ch:=ch) (λb hb=>?_) (λb o _ _ hc e _=>k b o hc e) (λb o _ _ hc e _=>⟨o.slots,k b o hc e⟩) (λb o _ e n=>by rw[az (aaG (aas e))];exact n) (λb o hc e=>⟨o,k b o hc e⟩) (λb _ e=>by rw[az (nn _ _ e)];exact e) (λb _ _ e=>by rw[az (nn _ _ e)];exact e) (λb ps e=>⟨#[],by rw[az (nn _ _ e),e];simp⟩) (λm hm=>?_) (λb u e=>?_) I.bare
 .
  obtain⟨f0,f1,f2,f3,f4,f5⟩:=hf b hb
  exact⟨f3,f1,f4,f5⟩
 .
  obtain⟨o,es,ep,ho,rr⟩:=hm
  exact⟨o,es,ep,k _ o (λz=>(hf _ z).2.1 rfl) ho,rr⟩
 .
  by_cases hb:b=s⁻¹
  .
   subst hb;rw[aE]at e;cases e
   exact⟨hz,its,rv,ht⟩
  .
   rw[az hb]at e
   refine (I.hok b u e).stay (λc w hc q=>k c w (λz=>?_) q) (λc q=>by rw[az (nn _ _ q)];exact q) λc _ q=>by rw[az (nn _ _ q)];exact q
   rcases hc with rfl |hc
   .
    exact nH _ _ e z
   .
    exact nH _ _ hc z
end
theorem rJ.N7(I:L2.Inv X ah σ H s)(h:rJ tp X.K H u us)(f:kY X ah H c):u≠c:=λz=>by
 subst z
 have inK:∀o,X.K.lookup u=some o->False:=λo e=>by
  have e0:=I.ok.mod.Dl u o e
  rcases f.2.2.2.1 with q |q
  .
   exact I.ok.uE u o e0 q
  .
   exact absurd (aan (aas (I.ok.bs u o e0).1) q) (aa7 _)
 cases tp with
 |true=>
  rcases (show iA X.K H u us from h)with (h |⟨o,h⟩) |h
  .
   rw[f.1]at h;cases h
  .
   rw[f.1]at h;cases h
  .
   obtain⟨o,_,_,h,_⟩:=h;exact inK _ h
 |false=>
  rcases (show cK X.K H u us from h)with (h |⟨o,h⟩) |h
  .
   rw[f.1]at h;cases h
  .
   rw[f.1]at h;cases h
  .
   obtain⟨o,_,_,h,_⟩:=h;exact inK _ h
noncomputable def Itz(tp:Bool)(K:Frag)(a b:Addr):It:=
 ⟨λi H=>∃xs ys x y,rJ tp K H a xs/\rJ tp K H b ys/\xs[i]?=some x/\ys[i]?=some y,λi H x H'=>∃p u v,(∀xs,rJ tp K H a xs->xs[i]?=some u)/\(∀ys,rJ tp K H b ys->ys[i]?=some v)/\H p=none/\x=.ref p/\H'=upd H p (.tup [u,v]),
  λi H=>∃xs ys,rJ tp K H a xs/\rJ tp K H b ys/\(i=xs.length\/(i<xs.length/\i=ys.length))⟩
theorem Gs{P:Program}{w:World}{K:Frag}{tp:Bool}{es:List Expr}{k:Nat}{pos:Pos}(r tI tO i j a b:Addr)(A1:tI≠r/\tO≠r/\i≠r/\j≠r)(A2:tI≠tO/\i≠tO/\j≠tO)(A3:tI≠i/\tI≠j/\i≠j) :
  Turn P w K (.Tuple es k pos) (Itz tp K a b) [r,tI,tO,i,j] r (λn h=>IsZip h r tI tO .none/\IsPair h tI (.ref i) (.ref j)/\(∃c d,IsPair h tO c d)/\Jg tp h i a n/\Jg tp h j b n) where
 mem:=by simp
 obj:=λn h st x hx=>by
  obtain⟨er,eI,⟨c,d,eO⟩,t1,t2⟩:=st
  simp only[aaj,aaO,abO]at hx
  rcases hx with rfl |rfl |rfl |rfl |rfl
  .
   exact⟨_,er,λv z=>nomatch (show Data.fields _=Data.cell v from z)⟩
  .
   exact⟨_,eI,λv z=>nomatch (show Data.seq _ _=Data.cell v from z)⟩
  .
   exact⟨_,eO,λv z=>nomatch (show Data.seq _ _=Data.cell v from z)⟩
  .
   obtain⟨o,vs,e1,e2⟩:=t1.obj
   exact⟨o,e1,λv z=>by rw[e2]at z;cases z⟩
  .
   obtain⟨o,vs,e1,e2⟩:=t2.obj
   exact⟨o,e1,λv z=>by rw[e2]at z;cases z⟩
 keep:=λn h h' st kp=>by
  obtain⟨er,eI,⟨c,d,eO⟩,t1,t2⟩:=st
  exact⟨kp r (by simp) _ er,kp tI (by simp) _ eI,⟨c,d,kp tO (by simp) _ eO⟩,t1.keep λo q=>kp i (by simp) o q,t2.keep λo q=>kp j (by simp) o q⟩
 item:=by
  intro X hP hw hK hc n ah s σ H E I hf st hg
  subst hP hw hK
  obtain⟨er,eI,⟨c,d,eO⟩,t1,t2⟩:=st
  obtain⟨xs,ys,x,y,qx,qy,gx,gy⟩:=hg
  obtain⟨W2,rx,W3,zx⟩:=qx.real I
  obtain⟨W4,ry,W5,zy⟩:=qy.real I
  have nf:∀{u:Addr}{us:List V}{c:Addr},rJ tp X.K H u us->c∈[r,tI,tO,i,j]->u≠c:=λh hc=>rJ.N7 I h (hf _ hc)
  have N:U6 r tI tO i j a b:=⟨⟨A1.1,A1.2.1,A1.2.2.1,A1.2.2.2,nf qx (by simp),nf qy (by simp)⟩,⟨A2.1,A2.2.1,A2.2.2,nf qx (by simp),nf qy (by simp)⟩,A3,⟨nf qx (by simp),nf qy (by simp),nf qx (by simp),nf qy (by simp)⟩⟩
  have l1:n<W2.length:=by rw[<- rx.length];exact (aai.mp gx).1
  have l2:n<W4.length:=by rw[<- ry.length];exact (aai.mp gy).1
  refine Gr (A:=X.A) N (tK (tp:=tp) (A:=X.A.in1) (I.ok.hd hc) (nf qx (by simp)) W2) (tK (tp:=tp) (A:=X.A.in1) (I.ok.hd hc) (nf qy (by simp)) W4) l1 l2 er eI eO ⟨t1,W3⟩ ⟨t2,W5⟩ λu v h1 tk fu gv Jh eO1 s1 s2 new sz kp=>⟨_,rfl,?_⟩
  refine wpAny_letOwnedTupleGo_zip (s:={ s with heap:=h1,toks:=tk}) Jh λh2 er2 k2=>?_
  have k2:Heap.SameBut r h1 h2:=k2
  obtain⟨u',e1,ru⟩:=rx.get gx
  obtain⟨v',e2,rv⟩:=ry.get gy
  rw[fu]at e1;cases e1
  rw[gv]at e2;cases e2
  have pr:s⁻¹≠r:=abK (aas er)
  have kk:∀x o,x∉[r,tO,i,j]->s.heap.get? x=some o->h2.get? x=some o:=λx o hx e=>by
   simp only[aaj,aaO,abO,not_or]at hx
   exact (k2.2 x hx.1).trans (kp x o hx.1 hx.2.1 hx.2.2.1 hx.2.2.2 e)
  have J:=Inv.Rw (t':=tk) (xs:=[x,y]) (its:=[u,v]) I (ch:=[r,tO,i,j]) (λc hc=>hf c (by simp only[aaj,aaO,abO]at hc ⊢;rcases hc with h |h |h |h <;> simp[h])) kk (by rw[aaY];show 2<=16777216;decide) (.cons ru (.cons rv .nil)) ⟨_,(k2.2 _ pr).trans new,⟨rfl,_,rfl⟩,rfl⟩
  have eI2:IsPair h2 tI (.ref i) (.ref j):=kk _ _ (by simp[A1.1,A2.1,A3.1,A3.2.1]) eI
  refine⟨.ref s⁻¹,_,J,rfl,⟨_,x,y,λzs hz=>by rw[hz.inj I qx];exact gx,λzs hz=>by rw[hz.inj I qy];exact gy,I.hok.fresh (aal _),rfl,rfl⟩,⟨er2,eI2,⟨u,v,(k2.2 _ A1.2.1).trans eO1⟩,s1.1.keep λo q=>(k2.2 _ A1.2.2.1).trans q,s2.1.keep λo q=>(k2.2 _ A1.2.2.2).trans q⟩,λc hc=>?_⟩
  have hcn:c≠s⁻¹:=λz=>by
   have:∃o,s.heap.get? c=some o:=by
    simp only[aaj,aaO,abO]at hc
    rcases hc with rfl |rfl |rfl |rfl |rfl
    .
     exact⟨_,er⟩
    .
     exact⟨_,eI⟩
    .
     exact⟨_,eO⟩
    .
     obtain⟨o,_,e,_⟩:=t1.obj;exact⟨o,e⟩
    .
     obtain⟨o,_,e,_⟩:=t2.obj;exact⟨o,e⟩
   obtain⟨o,e⟩:=this
   exact absurd (aas e) (by rw[z];exact aa7 _)
  rw[az hcn]
  exact (hf c hc).1
 done:=by
  intro X hP hw hK hc n ah s σ H E I hf st hg
  subst hP hw hK
  obtain⟨er,eI,⟨c,d,eO⟩,t1,t2⟩:=st
  obtain⟨xs,ys,qx,qy,hn⟩:=hg
  obtain⟨W2,rx,W3,zx⟩:=qx.real I
  obtain⟨W4,ry,W5,zy⟩:=qy.real I
  have nf:∀{u:Addr}{us:List V}{c:Addr},rJ tp X.K H u us->c∈[r,tI,tO,i,j]->u≠c:=λh hc=>rJ.N7 I h (hf _ hc)
  have N:U6 r tI tO i j a b:=⟨⟨A1.1,A1.2.1,A1.2.2.1,A1.2.2.2,nf qx (by simp),nf qy (by simp)⟩,⟨A2.1,A2.2.1,A2.2.2,nf qx (by simp),nf qy (by simp)⟩,A3,⟨nf qx (by simp),nf qy (by simp),nf qx (by simp),nf qy (by simp)⟩⟩
  refine vm (A:=X.A) N (tK (tp:=tp) (A:=X.A.in1) (I.ok.hd hc) (nf qx (by simp)) W2) (tK (tp:=tp) (A:=X.A.in1) (I.ok.hd hc) (nf qy (by simp)) W4) (by rw[<- rx.length,<- ry.length];exact hn) er eI eO ⟨t1,W3⟩ ⟨t2,W5⟩ λh1 tk kp=>⟨rfl,?_⟩
  exact Inv.Rv (t':=tk) I (ch:=[r,tO,i,j]) (λc hc=>hf c (by simp only[aaj,aaO,abO]at hc ⊢;rcases hc with h |h |h |h <;> simp[h])) λx o hx e=>by
   simp only[aaj,aaO,abO,not_or]at hx
   exact kp x o hx.1 hx.2.1 hx.2.2.1 hx.2.2.2 e
 self:=λA n s Q E st h=>wpAny_pyIter_zip st.1 h
open L2 PySem.W SeqAt
section
variable{prog:Program}{w:World}{A:Around}{E:Value->Shared->Prop}{s:Shared}
noncomputable abbrev W6(h:Heap)(a:Addr):Heap:=h.push { cls:=.type "tuple_iterator",data:=.fields #[.ref a,.int 0 0]}
noncomputable abbrev Y0(h:Heap)(a b:Addr):Heap:=(W6 h a).push { cls:=.type "tuple_iterator",data:=.fields #[.ref b,.int 0 0]}
noncomputable abbrev Y3(h:Heap)(a b:Addr):Heap:=(Y0 h a b).push { cls:=.type "tuple",data:=.seq #[.ref h.objs.size,.ref (W6 h a).objs.size]}
noncomputable abbrev Y4(h:Heap)(a b:Addr):Heap:=(Y3 h a b).push { cls:=.type "tuple",data:=.seq #[.none,.none]}
noncomputable abbrev U7 (h:Heap) (a b:Addr):Heap:=(Y4 h a b).push { cls:=.type "zip",data:=.fields #[.none,.bool false,.bool false,.ref (Y0 h a b).objs.size,.ref (Y3 h a b).objs.size]}
theorem xS(a b:Addr)(xs ys:Array Value) :
  Meets (Builtin.«zip.__new__» ⟨[.type "zip",.ref a,.ref b],[]⟩) (λ_ R s=>s.heap.IsTuple a xs/\s.heap.IsTuple b ys/\R (.ok (.ret (.ref (Y4 s.heap a b).objs.size))) { s with heap:=U7 s.heap a b}):=
 .of_wp λprog w A R s h=>by
  obtain⟨hp,g,d,tk,os⟩:=s;obtain⟨ta,tb,h⟩:=h
  have hsub:=sub_zip
  have T1:Heap.IsTuple (Shared.heap ⟨hp,g,d,tk,os⟩) a xs:=ta
  have T2:Heap.IsTuple (Shared.heap ⟨W6 hp a,g,d,tk,os⟩) b ys:=by
   obtain⟨o,e,rr⟩:=tb
   exact⟨o,aae _ e,rr⟩
  wp_walk using wpAny_pyIter_tuple T1,wpAny_pyIter_tuple T2
  exact⟨_,rfl,h⟩
theorem BJ(ta:s.heap.IsTuple a xs)(tb:s.heap.IsTuple b ys)
  (h:∀h',IsZip h' (s⁻¹+4) (s⁻¹+2) (s⁻¹+3) .none->IsPair h' (s⁻¹+2) (.ref s⁻¹) (.ref (s⁻¹+1))->
   IsPair h' (s⁻¹+3) .none .none->h'.IsTupleIter s⁻¹ a 0->h'.IsTupleIter (s⁻¹+1) b 0->h'.objs.size=s⁻¹+5->
   (∀c o,s.heap.get? c=some o->h'.get? c=some o)->Q (.ref (s⁻¹+4)) { s with heap:=h'}) :
  wpAny (model prog w) A (call (.type "zip") [.ref a,.ref b]) Q E s:=by
 refine callType_new F.called_zip (by decide) (F.typeCall_zip_2 _ _) (F.newCall_zip_2 _ _) (λobj=>F.args_object_init_3 obj _ _) F.entry_zip_new (xS a b xs ys) ⟨ta,tb,?_⟩
 have s1:(W6 s.heap a).objs.size=s⁻¹+1:=abQ ..
 have s2:(Y0 s.heap a b).objs.size=s⁻¹+2:=by rw[abQ,s1]
 have s3:(Y3 s.heap a b).objs.size=s⁻¹+3:=by rw[abQ,s2]
 have s4:(Y4 s.heap a b).objs.size=s⁻¹+4:=by rw[abQ,s3]
 have o5:(U7 s.heap a b).get? (Y4 s.heap a b).objs.size=some _:=aaq _ rfl
 have o4:(U7 s.heap a b).get? (Y3 s.heap a b).objs.size=some _:=aae _ (aaq _ rfl)
 have o3:(U7 s.heap a b).get? (Y0 s.heap a b).objs.size=some _:=aae _ (aae _ (aaq _ rfl))
 have o2:(U7 s.heap a b).get? (W6 s.heap a).objs.size=some _:=aae _ (aae _ (aae _ (aaq _ rfl)))
 have o1:(U7 s.heap a b).get? s⁻¹=some _:=aae _ (aae _ (aae _ (aae _ (aaq _ rfl))))
 show _/\_
 rw[s4]at o5 ⊢
 rw[s2,s3]at o5
 rw[s2,s1]at o3
 rw[s3]at o4
 rw[s1]at o2
 exact⟨⟨_,o5,rfl⟩,h _ o5 o3 o4 ⟨_,o1,rfl,rfl⟩ ⟨_,o2,rfl,rfl⟩ (by rw[abQ,s4]) λc o e=>aae _ (aae _ (aae _ (aae _ (aae _ e))))⟩
end
noncomputable def tL(l m:List D):List D:=(l.zip m).map λp=>.tup [p.1,p.2]
theorem Gu{l m:List D}{n:Nat}{d:D}(h:(tL l m)[n]?=some d):∃x y,l[n]?=some x/\m[n]?=some y/\d=.tup [x,y]:=by
 unfold tL at h
 rw[abq]at h
 cases e:(l.zip m)[n]? with
 |none=>rw[e]at h;cases h
 |some q=>
  rw[e]at h
  cases h
  obtain⟨h1,h2⟩:=List.getElem?_zip_eq_some.mp e
  exact⟨q.1,q.2,h1,h2,rfl⟩
theorem Gv(l m:List D):(tL l m).length=min l.length m.length:=by simp[tL]
section
variable{X:Cx}{z:Z}{g g1:G}{p rp pos:Pos}{e1 e2:Expr}{es:List Expr}{k:Nat}
noncomputable def isTup:D->Bool
 |.tup _=>true
 |_=>false
theorem Rep.sqX{K:Frag}{M:List Addr}{H:Hp}{d:D}{v:V}{l:List D}(r:Rep K M H d v)(h:cR d=some l):∃a xs,v=.ref a/\aI K M H l xs/\∀M2 H2,au M H M2 H2->rJ (isTup d) K H2 a xs:=by
 cases r with
 |@lst _ a xs hb rr=>cases h;exact⟨a,xs,rfl,rr,λM2 H2 st=>cK.of (st _ _ hb.2 hb.1).1⟩
 |@tup _ a xs hb rr=>
  cases h
  refine⟨a,xs,rfl,rr,λM2 H2 st=>?_⟩
  have:TupAt K M2 H2 a xs:=by
   rcases hb with ⟨na,hr⟩ |hk
   .
    exact .inl (st.rd na hr)
   .
    exact .inr hk
  exact this.sq
 |@fix _ a xs hb rr=>
  cases h
  refine⟨a,xs,rfl,rr,λM2 H2 st=>?_⟩
  have:oH K M2 H2 a xs:=by
   rcases hb with ⟨na,o,hr⟩ |hk
   .
    exact .inl ⟨(st _ _ hr na).2,o,(st _ _ hr na).1⟩
   .
    exact .inr hk
  exact this.sq
 |_=>cases h
theorem BK(ta:YQ tp s.heap a xs)(tb:YQ tp s.heap b ys)
  (h:∀h',IsZip h' (s⁻¹+4) (s⁻¹+2) (s⁻¹+3) .none->IsPair h' (s⁻¹+2) (.ref s⁻¹) (.ref (s⁻¹+1))->
   IsPair h' (s⁻¹+3) .none .none->Jg tp h' s⁻¹ a 0->Jg tp h' (s⁻¹+1) b 0->h'.objs.size=s⁻¹+5->
   (∀c o,s.heap.get? c=some o->h'.get? c=some o)->Q (.ref (s⁻¹+4)) { s with heap:=h'}):wpAny (model prog w) A (call (.type "zip") [.ref a,.ref b]) Q E s:=by
 cases tp with
 |true=>exact BJ ta tb h
 |false=>exact call_zip_2 ta tb h
theorem Rx{d1 d2:D}{l m:List D}(hK:z.K=X.K)(ha:cG X z [e1,e2] g [.dat d1,.dat d2] g1)(h1:cR d1=some l)(h2:cR d2=some m)(hkd:isTup d1=isTup d2)(hg:Gl X "zip")(hm:X.mg "zip" = none)(d9:starEach [e1,e2] X.env=(false,eval e1 X.env)::starEach [e2] X.env)(iu:(backTo rp (starEach [e2] X.env)).any (·.1)=false) :
  iE X z (.Tuple es k pos) (.Call (.Name "zip" p) [e1,e2] [] rp) g (tL l m) g1:=by
 refine iE.of λah s σ As M H Post I stt kk=>?_
 refine Call_ (gH I hg hm boot_zip (aaU (ha.run I stt λvs us s1 H1 aM M1 I1 r1 q1 q2 q3=>?_) d9 iu))
 cases q3 with
 |dat rp1 R=>cases R with
  |dat rp2 R=>
   cases R
   obtain⟨u1,u2,rfl,ru1,ru2⟩:=vals2 r1
   obtain⟨a,xs,rfl,rr1,sq1⟩:=rp1.sqX h1
   obtain⟨b,ys,rfl,N4,sq2⟩:=rp2.sqX h2
   cases ru1;cases ru2
   rw[<- hkd]at sq2
   have sa:rJ (isTup d1) X.K H1 a xs:=hK▸sq1 M1 H1 (au.refl _ _)
   have sb:rJ (isTup d1) X.K H1 b ys:=hK▸sq2 M1 H1 (au.refl _ _)
   obtain⟨W2,_,W3,_⟩:=sa.real I1
   obtain⟨W4,_,W5,_⟩:=sb.real I1
   refine BK W3 W5 λh' er eI eO t1 t2 jS hk=>kk _ _ λR kR=>?_
   refine wpAny_pyIter_zip er ?_
   have I2:L2.Inv X ah σ H1 { s1 with heap:=h'}:=I1.kept (t':=s1.toks) hk
   refine⟨_,[s1⁻¹+4,s1⁻¹+2,s1⁻¹+3,s1⁻¹,s1⁻¹+1],_,Itz (isTup d1) X.K a b,H1,rfl,I2,Gs (s1⁻¹+4) (s1⁻¹+2) (s1⁻¹+3) s1⁻¹ (s1⁻¹+1) a b (by refine⟨?_,?_,?_,?_⟩ <;> (intro q;have q:(_:Nat)=_:=q;lia)) (by refine⟨?_,?_,?_⟩ <;> (intro q;have q:(_:Nat)=_:=q;lia)) (by refine⟨?_,?_,?_⟩ <;> (intro q;have q:(_:Nat)=_:=q;lia)),⟨er,eI,⟨_,_,eO⟩,t1,t2⟩,λc hc=>?_,kR _ H1 aM M1 q1 q2 λM2 H2 aU=>?_⟩
   .
    have hle:s1⁻¹<=c:=by
     simp only[aaj,aaO,abO]at hc
     rcases hc with rfl |rfl |rfl |rfl |rfl <;> lia
    exact I1.Ae hle (I1.hok.fresh hle)
   .
    have s1':=hK▸sq1 M2 H2 aU
    have s2':=hK▸sq2 M2 H2 aU
    have R1:=rr1.stay aU
    have R2:=N4.stay aU
    refine⟨λn d hd=>?_,xs,ys,s1',s2',?_⟩
    .
     obtain⟨x,y,f1,f2,rfl⟩:=Gu hd
     obtain⟨vx,e2,e3⟩:=R1.get f1
     obtain⟨vy,e4,e5⟩:=R2.get f2
     refine⟨⟨xs,ys,vx,vy,s1',s2',e2,e4⟩,λw H' hy z' g' σ' aB hz' s'=>?_⟩
     obtain⟨p,u,v,w1,w2,w3,rfl,rfl⟩:=hy
     have w1:=w1 xs s1'
     have w2:=w2 ys s2'
     rw[e2]at w1;cases w1
     rw[e4]at w2;cases w2
     exact⟨s'.laid w3,au.laid w3,.tup (.inl ⟨s'.fresh w3,.inl aE⟩) (.cons (e3.stay (au.laid w3)) (.cons (e5.stay (au.laid w3)) .nil))⟩
    .
     rw[Gv,rr1.length,N4.length]
     lia
end
end Ev
namespace L2
def zF(T:List Addr)(H:Hp):Prop:=∀b,(b∈T/\H b=some (.kW #[]))\/(b∉T/\(H b=none\/∃o xs,H b=some (.gG o (.lst xs))))
theorem BL{P:Program}{w:World}{K:Frag}{mg mb:Str->Option Value}{CX:Al}{k:Nat}{fa a:Addr}{fd:FuncData}{x:Str}{sp:Sp}{s₁:Shared}{vs:List Value}{ns:List Int}{T:List Addr}
  (KX:K.In s₁.heap) (hT:∀q∈T,(∃c,s₁.heap.TableAt c q #[])/\K.lookup q=none) (hns:s₁.heap.Ns mainGlobals mg) (hb:s₁.heap.Ns builtinsNs mb) (hbb:∀x:Str,x≠ "__name__" ->mb x=bootBuiltins x) (hlim:s₁.heap.NoLimit) (hg:s₁.gens = #[])
  (ha:s₁.heap.get? a=some { cls:=.type "list",data:=.seq vs.toArray}) (hi:IntsAre vs ns) (hl:ns.length<=sizeLine) (hr:cu k callerA)
  (F:∀base:Heap,K.In base->base.Ns mainGlobals mg->iW P w K mg base CX k fa fd [x] sp) (hbind:∀(s:Shared) (u:Value),BindsTo s fd ⟨[u],[]⟩ [(x,u)])
  (UT:∀H:Hp,zF T H->cK K H a (ns.map V.int)->sp [.ref a] H (λv _=>v=.bl true) λ_ _ _=>False)
  (hCX:∀H e s',CX [] H s₁ (λ_ _ _=>False) e s'->False) :
  codeAny (model P w) callerA (.call (.ref fa) ⟨[.ref a],[]⟩) (λr s'=>r=.ok (.ret (.bool true))/\OldK s₁.heap s'.heap/\s'.os=s₁.os/\AllBare s'.gens) s₁:=by
 have rv:=k9 hi
 have lenV:=hi.length
 have aT:a∉T:=λh=>by
  obtain⟨⟨c,_,e⟩,_⟩:=hT a h
  rw[ha]at e;cases e
 have core:∀H:Hp,zF T H->cK K H a (ns.map V.int)->kX P w H s₁.heap->(∀b,H b≠none->b=a\/b∈T)->(H a≠none->K.lookup a=none)->
   codeAny (model P w) callerA (.call (.ref fa) ⟨[.ref a],[]⟩) (λr s'=>r=.ok (.ret (.bool true))/\OldK s₁.heap s'.heap/\s'.os=s₁.os/\AllBare s'.gens) s₁:=by
  intro H hO hS hok hA hK
  have zG:∀{b:Addr}{o:Obj},s₁.heap.get? b=some o->H b=none->(sf s₁.heap H).get? b=some o:=λe n=>Dz e n
  have V5:∀{b:Addr}{o:Obj}{es:Array DictEntry}{ep:Nat},s₁.heap.get? b=some o->o.data=.dict es ep->H b=none:=λ{b o es ep} e d=>by
   cases q:H b with
   |none=>rfl
   |some u=>
    rcases hA b (by rw[q];simp)with e' |e'
    .
     subst e'
     rw[ha]at e;cases e
     have d':Data.seq vs.toArray _=Data.dict es ep:=d
     cases d'
    .
     obtain⟨⟨c,_,e2⟩,_⟩:=hT b e'
     rw[e]at e2;cases e2
     have d':Data.fields #[]=Data.dict es ep:=d
     cases d'
  have Y5:∀{b:Addr}{m:Str->Option Value},s₁.heap.Ns b m->(sf s₁.heap H).Ns b m:=λ{b m} ⟨o,es,ep,e,d,r⟩=>⟨o,es,ep,zG e (V5 e d),d,r⟩
  have N8:K.In (sf s₁.heap H):=λb o e=>zG (KX b o e) (by
   cases q:H b with
   |none=>rfl
   |some u=>
    rcases hA b (by rw[q];simp)with e' |e'
    .
     subst e'
     rw[hK (by rw[q];simp)]at e;cases e
    .
     rw[(hT b e').2]at e;cases e)
  have hM:Mod K mg (sf s₁.heap H):=⟨N8,Y5 hns,⟨mb,Y5 hb,hbb⟩,let ⟨mc,h1,h2⟩:=hlim;⟨mc,Y5 h1,h2⟩⟩
  have e0:Eb P w K mg (sf s₁.heap H) callerA [] s₁ H:=⟨rfl,hM,λb o e=>Jm e,Nat.le_of_eq (Ad _ _),trivial,λb hb=>absurd (show b∈([]:List Addr)from hb) (by simp),hok,.of_eq hg⟩
  refine acr ((F _ N8 (Y5 hns)).run callerA [] s₁ H ⟨[.ref a],[]⟩ [.ref a] [.ref a] _ _ hr e0 (hbind s₁ (.ref a)) (.cons rfl .nil) (UT H hO hS)) λr s' h=>?_
  cases r with
  |error e=>exact (hCX H e s' h).elim
  |ok fl=>
   cases fl with
   |next=>exact False.elim h
   |brk=>exact False.elim h
   |cont=>exact False.elim h
   |ret u=>
    obtain⟨v,H',os,bare,un,K6,r',q⟩:=h
    have q':v=.bl true:=q
    subst q'
    obtain rfl:u=Value.bool true:=r'
    have tabs:∀b∈T,∀o,s₁.heap.get? b=some o->∃more,o={ cls:=.none,data:=.fields #[]}/\s'.heap.get? b=some { cls:=.none,data:=.fields more}:=λb hb o e=>by
     obtain⟨⟨c,_,e2⟩,_⟩:=hT b hb
     rw[e]at e2;cases e2
     rcases hO b with ⟨_,z⟩ |⟨z,_⟩
     .
      obtain⟨more,z2⟩:=un.jW b _ z
      exact⟨_,rfl,K6 b _ z2⟩
     .
      exact absurd hb z
    have rest:∀b,b∉T->∀o,s₁.heap.get? b=some o->s'.heap.get? b=some o:=λb hb o e=>by
     cases q:H b with
     |none=>exact un.keep b o e q (by intro z;exact absurd (show b∈([]:List Addr)from z) (by simp)) (by simp)
     |some u=>
      rcases hO b with ⟨z,_⟩ |⟨_,z⟩
      .
       exact absurd z hb
      .
       rcases z with z |⟨ob,xs,z⟩
       .
        rw[q]at z;cases z
       .
        have z2:=un.jV b ob _ z
        obtain⟨e1,_⟩:=hok b _ z
        obtain⟨e2,_⟩:=K6 b _ z2
        rw[e]at e1;cases e1
        exact e2
    refine⟨rfl,⟨λb o e=>?_,λb o e=>?_⟩,os,bare⟩
    .
     by_cases hb:b∈T
     .
      obtain⟨more,rfl,e2⟩:=tabs b hb o e
      obtain⟨⟨c,t⟩,_⟩:=hT b hb
      exact .inr (.inl ⟨t.isCodeTable,rfl,#[],more,rfl,by rw[e2];simp⟩)
     .
      exact .inl (rest b hb o e)
    .
     by_cases hb:b∈T
     .
      obtain⟨more,rfl,e2⟩:=tabs b hb o e
      exact⟨_,e2⟩
     .
      exact⟨_,rest b hb o e⟩
 have Gw:∀b∈T,s₁.heap.get? b=some { cls:=.none,data:=.fields #[]}:=λb hb=>by
  obtain⟨⟨c,_,e2⟩,_⟩:=hT b hb
  exact e2
 cases hk:K.lookup a with
 |some o=>
  have e:=KX a o hk
  rw[ha]at e
  cases e
  refine core (λb=>if b∈T then some (.kW #[])else none) (λb=>?_) (.inr ⟨_,vs.toArray,_,hk,rfl,rfl,rfl,by rw[aag,lenV];exact hl,by simpa using rv⟩) (λb u z=>?_) (λb z=>?_) λz=>absurd (aau aT) z
  .
   by_cases hb:b∈T
   .
    exact .inl ⟨hb,aav hb⟩
   .
    exact .inr ⟨hb,.inl (aau hb)⟩
  .
   by_cases hb:b∈T
   .
    have z':=(aav hb).symm.trans z
    cases z'
    exact Gw b hb
   .
    have z':=(aau hb).symm.trans z
    cases z'
  .
   by_cases hb:b∈T
   .
    exact .inr hb
   .
    exact absurd (aau hb) z
 |none=>
  refine core (λb=>if b∈T then some (.kW #[])else if b=a then some (.gG { cls:=.type "list",data:=.seq vs.toArray} (.lst (ns.map V.int)))else none) (λb=>?_) (.inl (.inr ⟨{ cls:=.type "list",data:=.seq vs.toArray},(aau aT).trans (aav rfl)⟩)) (λb u z=>?_) (λb z=>?_) λ_=>hk
  .
   by_cases hb:b∈T
   .
    exact .inl ⟨hb,aav hb⟩
   .
    refine .inr ⟨hb,?_⟩
    by_cases hb2:b=a
    .
     exact .inr ⟨_,_,(aau hb).trans (aav hb2)⟩
    .
     exact .inl ((aau hb).trans (aau hb2))
  .
   by_cases hb:b∈T
   .
    have z':=(aav hb).symm.trans z
    cases z'
    exact Gw b hb
   .
    have z1:=(aau hb).symm.trans z
    by_cases hb2:b=a
    .
     have z':=(aav hb2).symm.trans z1
     cases z'
     subst hb2
     exact⟨ha,by rw[aaA];exact hl,vs,_,rv,ha⟩
    .
     have z':=(aau hb2).symm.trans z1
     cases z'
  .
   by_cases hb:b∈T
   .
    exact .inr hb
   .
    by_cases hb2:b=a
    .
     exact .inl hb2
    .
     exact absurd ((aau hb).trans (aau hb2)) z
end L2
namespace Ev
open L2
noncomputable abbrev lH(p:Addr)(o:Obj):HO:=.ext λh=>h.get? p=some o
section
variable{z:Z}{g:G}{σ:Sg}{As M:List Addr}{H:Hp}
theorem S.grow(s:S z g σ As M H){q:Addr}{qn:Str}{ps:Array Value}{pos:Pos}{c:Addr}(hq:(q,qn)∈z.T)(hu:∀p∈z.T,p.1=q->p.2=qn)(hp:H q=some (.kW ps))(ht:TriplesOk ps.toList)(hc:H c=some (g8 qn c))
  (ok:TriplesOk (ps ++ #[rawInt pos.line,rawInt pos.col,.ref c]).toList) (am:∀pos' cv,codeAmong pos' (ps ++ #[rawInt pos.line,rawInt pos.col,.ref c]).toList=some cv->codeAmong pos' ps.toList=some cv\/cv=.ref c) :
  S z g σ As M (upd H q (.kW (ps ++ #[rawInt pos.line,rawInt pos.col,.ref c]))) where
 sl:=s.sl.stay (au.write (s.iX _ (s.tm _ hq))) λa ha u e=>by
  rcases s.live a (s.sub a ha)with ⟨xs,e2⟩ |e2
  .
   rw[az (λz=>by rw[z,hp]at e2;cases e2)];exact e
  .
   exact absurd e2 (λw=>by
    have:∃xs,H a=some (.lst xs):=by
     have key:∀{g:G}{σ:Sg}{As:List Addr},Slots z.K M H g σ As->∀a∈As,∃xs,H a=some (.lst xs):=λq=>by
      induction q with
      |nil=>intro a h;cases h
      |no _ ih=>exact ih
      |dat _ _ ih=>exact ih
      |own e _ _ ih=>intro a h;rcases aaj.mp h with rfl |h;exact⟨_,e⟩;exact ih a h
     exact key s.sl a ha
    obtain⟨xs,e3⟩:=this
    exact s.NZ e3 w)
 nd:=s.nd
 sub:=s.sub
 own:=s.own
 live:=λm hm=>by
  rcases s.live m hm with ⟨xs,e⟩ |e
  .
   exact .inl ⟨xs,by rw[az (λz=>by rw[z,hp]at e;cases e)];exact e⟩
  .
   exact .inr e
 keep:=λb u e hb hT=>by
  rw[az (λz=>hT (by rw[z];exact aaD.mpr ⟨_,hq,rfl⟩))];exact s.keep b u e hb hT
 iX:=s.iX
 m0:=s.m0
 bm:=s.bm
 jT:=s.jT
 tab:=λp h=>by
  have lam:∀d U8,H d=some (g8 U8 d)->upd H q (.kW (ps ++ #[rawInt pos.line,rawInt pos.col,.ref c])) d=some (g8 U8 d):=λd U8 e=>by
   rw[az (λz=>by rw[z,hp]at e;cases e)];exact e
  by_cases e:p.1=q
  .
   obtain⟨p1,p2⟩:=p
   have e1:p1=q:=e
   have e2:p2=qn:=hu _ h e
   subst e1;subst e2
   refine⟨_,aE,ok,λpos' cv ec=>?_⟩
   rcases am pos' cv ec with ec |rfl
   .
    obtain⟨ps',h1,_,h3⟩:=s.tab _ h
    have h1:H p1=some (.kW ps'):=h1
    rw[hp]at h1;cases h1
    obtain⟨d,e1,e2⟩:=h3 pos' cv ec
    exact⟨d,e1,lam d _ e2⟩
   .
    exact⟨c,rfl,lam c _ hc⟩
  .
   obtain⟨ps',h1,h2,h3⟩:=s.tab p h
   refine⟨ps',by rw[az e];exact h1,h2,λpos' cv ec=>?_⟩
   obtain⟨d,e1,e2⟩:=h3 pos' cv ec
   exact⟨d,e1,lam d _ e2⟩
 tm:=s.tm
 tt:=s.tt
end
theorem tM(h:TriplesOk l):TriplesOk (l++[.int i a,.int j b,v]):=by
 fun_induction TriplesOk l with
 |case1=>trivial
 |case2 _ _ _ _ _ rest ih=>exact ih h
 |case3=>exact h.elim
theorem xT(h:TriplesOk l)(e:codeAmong pos (l++[.int i a,.int j b,v])=some cv):codeAmong pos l=some cv\/cv=v:=by
 fun_induction TriplesOk l with
 |case1=>
  simp only[abT,codeAmong]at e
  split at e
  .
   exact .inr (aa1 e).symm
  .
   cases e
 |case2 line _ col _ c rest ih=>
  simp only[List.cons_append,codeAmong]at e ⊢
  split at e
  .
   rename_i q;rw[aav q];exact .inl e
  .
   rename_i q;rw[aau q];exact ih h e
 |case3=>exact h.elim
section
variable{X:Cx}{z:Z}{g:G}{σ:Sg}{As M:List Addr}{H:Hp}{ah:List (Addr×Obj)}{s:Shared}{params:Arguments}{body:Expr}{scope:Scope}{pos:Pos}{E:Value->Shared->Prop}{Q:Value->Shared->Prop}
theorem zH(hok:kX P w H h)(hq:H q=some (.kW ps))(hq':H' q=some (.kW (ps++more)))(k:∀b o,b≠q->h.get? b=some o->h'.get? b=some o)(tq:∃o,h'.get? q=some o)
  (kH:∀b,b<h.objs.size->b≠q->H' b=H b):Un fs [] H H' h h' where
 keep:=λb o e n _ _=>k b o (λz=>by rw[z,hq]at n;cases n) e
 slot:=λb o e n _ _=>⟨o.slots,k b o (λz=>by rw[z,hq]at n;cases n) e⟩
 free:=λb o e n _=>by rw[kH b (aas e) (λz=>by rw[z,hq]at n;cases n)];exact n
 there:=λb o e _=>by
  by_cases hb:b=q
  .
   subst hb;exact tq
  .
   exact⟨o,k b o hb e⟩
 tups:=λb xs e=>by rw[kH b (hok.lt e) (λz=>by rw[z,hq]at e;cases e)];exact e
 jV:=λb o u e=>by rw[kH b (hok.lt e) (λz=>by rw[z,hq]at e;cases e)];exact e
 jW:=λb ps' e=>by
  by_cases hb:b=q
  .
   subst hb;rw[hq]at e;cases e;exact⟨_,hq'⟩
  .
   rw[kH b (hok.lt e) hb];exact⟨#[],by rw[e];simp⟩
end
section
variable{X:Cx}{z:Z}{g:G}{σ:Sg}{As M:List Addr}{H:Hp}{ah:List (Addr×Obj)}{s:Shared}{params:Arguments}{body:Expr}{scope:Scope}{pos:Pos}{E:Value->Shared->Prop}{Q:Value->Shared->Prop}
theorem Gx(e:h.get? p=some o):dc P w H h p (lH p o):=⟨e,⟨o,e⟩,λ_ _ e k=>k _ e⟩
theorem K7(e:h.CodeRec (.ref c) q):dc P w H h c (g8 q c):=by
 refine⟨e,?_,λh1 h2 e k=>?_⟩
 .
  obtain⟨c',o,vs,t,e1,e2,_⟩:=e
  cases e1
  exact⟨o,e2⟩
 .
  obtain⟨c',o,vs,t,e1,e2,e3⟩:=e
  cases e1
  exact⟨c,o,vs,t,rfl,k _ e2,e3⟩
theorem Gy(I:L2.Inv X ah σ H s)(hs:S z g σ As M H)(hq:(q,qn)∈z.T)(hu:∀p∈z.T,p.1=q->p.2=qn)(hcode:X.env.code=.ref c)(C:PySem.W.CodeHd X.base c q)(hqn:X.env.qual ++ "<lambda>" = qn)
  (hb:X.base.BuiltinsAt X.mg q) (W7:mainGlobals≠q) (hdef:defaultsOf params X.env=([],[])) (B:aX X.env.scope scope)
  (h:∀(p c':Addr) (g6:Value) (cl:List (Str×Addr)) (H':Hp) (s':Shared),L2.Inv X ah σ H' s'->S z g σ As M H'->au M H M H'->p∉M->
   H' p=some (lH p (PySem.W.kla_obj "<lambda>" qn params body scope cl ((X.mg "__name__").getD .none) c' g6))->H' c'=some (g8 qn c')->
   (∀x c,cl.lookup x=some c->X.env.cells.lookup x=some c/\(x,NameKind.free)∈scope.names)->(∀y∈scope.names,y.2=.free->∃c,cl.lookup y.1=some c)->(∀b xs,H b=some (.lst xs)->H' b=some (.lst xs))->Q (.ref p) s') :
  wpAny (model X.prog X.w) X.A (eval (.Lambda params body scope pos) X.env) Q E s:=by
 refine PySem.W.kla_eval hdef ?_
 rw[hqn]
 obtain⟨ps,hp,ht,hcs⟩:=hs.tab _ hq
 have hp:H q=some (.kW ps):=hp
 have hP:s.heap.get? q=some (PySem.W.tabObj ps):=I.hok q _ hp
 obtain⟨cl,hcl,BP,K8⟩:=oF (scope:=scope) (env:=X.env) λy hy e=>I.ok.has y.1 (by
  rcases B.free y hy e with e |e
  .
   exact .inl e
  .
   exact .inr e)
 have qlt:q<s⁻¹:=aas hP
 cases hf:codeAmong pos ps.toList with
 |some cv=>
  obtain⟨c',rfl,hc'⟩:=hcs pos cv hf
  refine PySem.W.kla_makeFunctionHit hcl I.ok.glob (I.ok.mod.glob.keeps I.bk) hcode (C.keeps I.bk) hP ht hf (hb.keeps I.bk) λg6 h' tk hk jS=>?_
  have hk2:∀b o,s.heap.get? b=some o->(h'.push (PySem.W.kla_obj "<lambda>" qn params body scope cl ((X.mg "__name__").getD .none) c' g6)).get? b=some o:=λb o e=>aae _ (hk b o e)
  have fr:H h'.objs.size=none:=I.hok.fresh jS
  have kH:∀b,b<s⁻¹->b≠q->upd H h'.objs.size (lH h'.objs.size (PySem.W.kla_obj "<lambda>" qn params body scope cl ((X.mg "__name__").getD .none) c' g6)) b=H b:=λb hb _=>az (aaG (aan hb jS))
  have U8:q≠h'.objs.size:=aaG (aan qlt jS)
  refine h _ c' g6 cl (upd H h'.objs.size (lH h'.objs.size (PySem.W.kla_obj "<lambda>" qn params body scope cl ((X.mg "__name__").getD .none) c' g6))) _ (I.call' (s':={ s with heap:=h'.push (PySem.W.kla_obj "<lambda>" qn params body scope cl ((X.mg "__name__").getD .none) c' g6),toks:=tk}) (ch:=[]) rfl
   (zH (more:=#[]) I.hok hp (by rw[az U8,hp];simp) (λb o _ e=>hk2 b o e) ⟨_,hk2 _ _ hP⟩ kH) (I.hok.laid hk2 jS (Gx (aaq _ rfl))) I.bare λb z=>nomatch z) (hs.laid fr) (au.laid fr) (hs.fresh fr) aE ?_ BP K8 λb xs e=>by rw[az (aH e fr)];exact e
  rw[az (λz=>by rw[z,fr]at hc';cases hc')];exact hc'
 |none=>
  refine PySem.W.kla_makeFunction hcl I.ok.glob (I.ok.mod.glob.keeps I.bk) hcode (C.keeps I.bk) hP ht hf W7 (hb.keeps I.bk) λc' g6 h' tk hx hc1 hc2 W8 hP'=>?_
  have jS:s⁻¹<=h'.objs.size:=acQ (Nat.lt_of_le_of_lt hc1 hc2)
  have hk2:∀b o,b≠q->s.heap.get? b=some o->(h'.push (PySem.W.kla_obj "<lambda>" qn params body scope cl ((X.mg "__name__").getD .none) c' g6)).get? b=some o:=λb o ne e=>aae _ (hx b o ne e)
  have frc:H c'=none:=I.hok.fresh hc1
  have frp:H h'.objs.size=none:=I.hok.fresh jS
  have qc:q≠c':=aaG (aan qlt hc1)
  have qp:q≠h'.objs.size:=aaG (aan qlt jS)
  have cp:c'≠h'.objs.size:=aaG hc2
  have s1:=hs.laid (o:=g8 qn c') frc
  have e1:upd H c' (g8 qn c') q=some (.kW ps):=by rw[az qc];exact hp
  have s2:=s1.grow (pos:=pos) hq hu e1 ht aE (by rw[Array.toList_append];exact tM ht) (λpos' cv e=>xT ht (by rw[Array.toList_append]at e;exact e))
  have W9:upd (upd H c' (g8 qn c')) q (.kW (ps ++ #[rawInt pos.line,rawInt pos.col,.ref c'])) h'.objs.size=none:=by rw[az qp.symm,az cp.symm];exact frp
  have s3:=s2.laid (o:=lH h'.objs.size (PySem.W.kla_obj "<lambda>" qn params body scope cl ((X.mg "__name__").getD .none) c' g6)) W9
  have kH:∀b,b<s⁻¹->b≠q->upd (upd (upd H c' (g8 qn c')) q (.kW (ps ++ #[rawInt pos.line,rawInt pos.col,.ref c']))) h'.objs.size (lH h'.objs.size (PySem.W.kla_obj "<lambda>" qn params body scope cl ((X.mg "__name__").getD .none) c' g6)) b=H b:=λb hb ne=>by
   rw[az (aaG (aan hb jS)),az ne,az (aaG (aan hb hc1))]
  have hq3:upd (upd (upd H c' (g8 qn c')) q (.kW (ps ++ #[rawInt pos.line,rawInt pos.col,.ref c']))) h'.objs.size (lH h'.objs.size (PySem.W.kla_obj "<lambda>" qn params body scope cl ((X.mg "__name__").getD .none) c' g6)) q=some (.kW (ps ++ #[rawInt pos.line,rawInt pos.col,.ref c'])):=by rw[az qp];exact aE
  have hc3:upd (upd (upd H c' (g8 qn c')) q (.kW (ps ++ #[rawInt pos.line,rawInt pos.col,.ref c']))) h'.objs.size (lH h'.objs.size (PySem.W.kla_obj "<lambda>" qn params body scope cl ((X.mg "__name__").getD .none) c' g6)) c'=some (g8 qn c'):=by rw[az cp,az qc.symm];exact aE
  have hP2:=aae (PySem.W.kla_obj "<lambda>" qn params body scope cl ((X.mg "__name__").getD .none) c' g6) hP'
  have K6:kX X.prog X.w (upd (upd (upd H c' (g8 qn c')) q (.kW (ps ++ #[rawInt pos.line,rawInt pos.col,.ref c']))) h'.objs.size (lH h'.objs.size (PySem.W.kla_obj "<lambda>" qn params body scope cl ((X.mg "__name__").getD .none) c' g6))) (h'.push (PySem.W.kla_obj "<lambda>" qn params body scope cl ((X.mg "__name__").getD .none) c' g6)):=λb u e=>by
   by_cases b1:b=h'.objs.size
   .
    subst b1;rw[aE]at e;cases e
    exact Gx (aaq _ rfl)
   .
    by_cases b2:b=q
    .
     subst b2;rw[hq3]at e;cases e
     exact hP2
    .
     by_cases b3:b=c'
     .
      subst b3;rw[hc3]at e;cases e
      exact K7 (by
       obtain⟨d,o,vs,t,e1,e2,e3⟩:=W8
       exact⟨d,o,vs,t,e1,aae _ e2,e3⟩)
     .
      rw[az b1,az b2,az b3]at e
      refine (I.hok b u e).stay (λd o hd eo=>hk2 d o (λz=>?_) eo) (λd ed=>?_) λd xs ed=>?_
      .
       rcases hd with hd |hd
       .
        exact b2 (hd▸z)
       .
        rw[z,hp]at hd;cases hd
      .
       rw[kH d (I.hok.lt ed) (λz=>by rw[z,hp]at ed;cases ed)];exact ed
      .
       rw[kH d (I.hok.lt ed) (λz=>by rw[z,hp]at ed;cases ed)];exact ed
  refine h _ c' g6 cl _ _ (I.call' (s':={ s with heap:=h'.push (PySem.W.kla_obj "<lambda>" qn params body scope cl ((X.mg "__name__").getD .none) c' g6),toks:=tk}) (ch:=[]) rfl
   (zH I.hok hp hq3 hk2 ⟨_,hP2⟩ kH) K6 I.bare λb z=>nomatch z) s3 ?_ (hs.fresh frp) aE hc3 BP K8 λb xs e=>by rw[az (aH e frp),az (λz=>by rw[z,hp]at e;cases e),az (aH e frc)];exact e
  exact ((au.laid frc).trans (au.write (hs.iX _ (hs.tm _ hq)))).trans (au.laid W9)
end
noncomputable def vn(X:Cx)(N:List Str)(qual:Str)(scope:Scope)(p:Addr)(cd:Value)(cl:List (Str×Addr))(s:Shared)(H:Hp)(xe:Value->Shared->Prop):Cx where
 prog:=X.prog
 w:=X.w
 K:=X.K
 mg:=X.mg
 base:=X.base
 A:=X.A.deeper (PySem.W.envX qual scope s⁻¹ p cd cl)
 N:=N
 s₀:=s
 H₀:=H
 env:=PySem.W.envX qual scope s⁻¹ p cd cl
 outer:=X.stack
 stack:=PySem.W.envX qual scope s⁻¹ p cd cl::X.stack
 ex:=[]
 calm:=true
 fn:=λ_=>false
 pn:=[]
 xe:=xe
structure lI(N:List Str)(σ:Sg)(scope:Scope)(cl:List (Str×Addr))(H:Hp)(h:Heap):Prop where
 inj:∀x y c,cl.lookup x=some c->cl.lookup y=some c->x=y
 has:∀x,scope.names.lookup x=some .cell\/scope.names.lookup x=some .free->∃c,cl.lookup x=some c
 cell:∀x c,cl.lookup x=some c->H c=none/\∃v,h.IsCell c v
 loc:∀(i:Nat) (x:Str) (v:V),N[i]?=some x->σ[i]?=some (some v)->nI scope x->scope.names.lookup x=some .free/\∃u c,RelV v u/\cl.lookup x=some c/\h.IsCell c (some u)
 len:σ.length=N.length
section
variable{X:Cx}{N:List Str}{qual:Str}{scope:Scope}{p:Addr}{cd:Value}{cl:List (Str×Addr)}{s:Shared}{H:Hp}{ah:List (Addr×Obj)}{σ σ0:Sg}{xe:Value->Shared->Prop}
theorem K9(I:L2.Inv X ah σ H s)(hc:X.calm=true)(hk:scope.kind=.function)(C:lI N σ0 scope cl H s.heap)(hk₁:∀b o,s.heap.get? b=some o->h₁.get? b=some o)(hns:h₁.Ns s⁻¹ m) :
  L2.Inv (vn X N qual scope p cd cl s H xe) [] σ0 H { s with heap:=h₁,toks:=tk}:=by
 have e0:=I.Jw
 refine⟨⟨e0.mod,hk,rfl,rfl,aal _,C.inj,C.has,(λ_ _ h=>nomatch h),λ_=>I.ok.hd hc,Around.frames_deeper e0.frames,.inr ⟨rfl,rfl⟩,(λb z=>nomatch z),e0.bs,e0.DG,(λ_ _ _ z=>nomatch z),(λb z=>nomatch z),e0.jX,e0.Jp⟩,
  rfl,e0.bare,Un.kept hk₁,⟨m,hns,λi x v h1 h2 h3=>?_⟩,λx c e=>?_,e0.hok.fresh (aal _),λx c e=>(C.cell x c e).1,(λp hp=>nomatch hp),e0.hok.kept hk₁,C.len⟩
 .
  obtain⟨f,u,c,r,e1,e2⟩:=C.loc i x v h1 h2 h3
  exact⟨u,r,.inr ⟨.inr f,c,e1,e2.keeps hk₁⟩⟩
 .
  obtain⟨v,q⟩:=(C.cell x c e).2
  exact⟨v,q.keeps hk₁⟩
theorem Gz{z:Z}{g g':G}{As M:List Addr}{body:Expr}{params:Arguments}{pm g6:Value}{c' C:Addr}{R:Result->Shared->Prop}(I:L2.Inv X ah σ H s)(hc:X.calm=true)(hroom:X.A.depth<recursionLimit)
  (hp:s.heap.get? p=some (PySem.W.kla_obj "<lambda>" qual params body scope cl pm c' g6)) (W8:s.heap.CodeRec (.ref c') qual) (hpar:bindArgs (PySem.W.kla_fn "<lambda>" qual params body scope cl pm (.ref c') g6) ⟨[],[]⟩=pure [])
  (hco:scope.isCoroutine=false) (hgen:scope.isGenerator=false) (hk:scope.kind=.function) (hnc:∀x∈scope.names,x.2≠.cell) (Cl:lI N σ0 scope cl H s.heap) (hS:S z g σ0 As M H)
  (hb:∀xe,PassesOwn (model X.prog X.w) (X.A.deeper (PySem.W.envX qual scope s⁻¹ p (.ref c') cl)) (PySem.W.envX qual scope s⁻¹ p (.ref c') cl) xe->FJ (vn X N qual scope p (.ref c') cl s H xe) z body g C g')
  (hR:∀x H1 aM M1 s'',Dr X.prog X.w X.stack H s (λc o h=>c=.ref C/\o=none/\h=H1) (.ref x) s''->S z g' σ0 aM M1 H1->au M H M1 H1->R (.error (.ref x)) s'') :
  codeAny (model X.prog X.w) X.A (.call (.ref p) ⟨[],[]⟩) R s:=by
 refine PySem.W.kla_callFunE hroom hp rfl hco hgen rfl W8 ?_
 rw[hpar]
 refine aak (wpAny_newFunctionEnv hnc (λy hy=>nomatch hy) (λh₁ hns hsb=>⟨(I.nolimit).fresh _ hsb,?_⟩) hk)
 have hk₁:∀b o,s.heap.get? b=some o->h₁.get? b=some o:=λb o e=>hsb.extBut b o (aaG (aas e)) (aae _ e)
 refine PySem.W.kla_codeExpr ?_
 obtain⟨t,q,k⟩:=hb (λe' s'=>wpAny (model X.prog X.w) (X.A.deeper (PySem.W.envX qual scope s⁻¹ p (.ref c') cl)) (leaving (PySem.W.envX qual scope s⁻¹ p (.ref c') cl) e') (λ_ s''=>R (.error e') s'') (λe'' s''=>R (.error e'') s'') s') PassesOwn.leaving
 have J:=K9 (N:=N) (qual:=qual) (p:=p) (cd:=.ref c') (σ0:=σ0) (tk:=s.toks+([]:List (Str×Value)).length) (xe:=λe' s'=>wpAny (model X.prog X.w) (X.A.deeper (PySem.W.envX qual scope s⁻¹ p (.ref c') cl)) (leaving (PySem.W.envX qual scope s⁻¹ p (.ref c') cl) e') (λ_ s''=>R (.error e') s'') (λe'' s''=>R (.error e'') s'') s') I hc hk Cl hk₁ hns
 refine aaN (q [] _ σ0 H (λ_ _=>False) J (k σ0 As M H _ hS λpins1 s1 H1 aM M1 x I1 S1 st fl=>?_)) (λv s' h=>?_) λ_ _ h=>h
 .
  exact rE I1 rfl rfl rfl fl λs'' cx=>hR x H1 aM M1 s'' cx S1 st
 .
  obtain⟨_,_,_,_,h⟩:=h;exact h.elim
end
section
variable{X:Cx}{σ:Sg}{H:Hp}{s:Shared}{x C:Addr}
theorem Inv.cnl(I:L2.Inv X [] σ H s):∀y c,X.env.cells.lookup y=some c->c≠X.env.locals:=λy c e q=>by
 obtain⟨v,o,h1,h2⟩:=I.cell y c e
 obtain⟨m,⟨o',es,ep,h3,h4,_⟩,_⟩:=I.loc
 rw[q,h3]at h1;cases h1
 rw[h4]at h2;cases h2
theorem Inv.touch(I:L2.Inv X [] σ H s)(hp:X.pn=[])(hT:X.s₀.heap.get? T=none)(hH:H T=none)(hf:∃o vs,s.heap.get? T=some o/\o.data=.fields vs)(k:∀b o,b≠T->s.heap.get? b=some o->h'.get? b=some o)(kT:∃o,h'.get? T=some o) :
  L2.Inv X [] σ H { s with heap:=h'}:=by
 obtain⟨oT,ts,eT,dT⟩:=hf
 have La:∀b o,X.s₀.heap.get? b=some o->b≠T:=λb o e q=>by rw[q,hT]at e;cases e
 have Xa:∀b o,s.heap.get? b=some o->(∀vs,o.data≠.fields vs)->b≠T:=λb o e d q=>by rw[q,eT]at e;cases e;exact d _ dT
 have cellK:∀c v,s.heap.IsCell c v->h'.IsCell c v:=λc v ⟨o,e,d⟩=>⟨o,k c o (Xa c o e λvs q=>by rw[d]at q;cases q) e,d⟩
 obtain⟨m,⟨o,es,ep,e,d,r⟩,hlk⟩:=I.loc
 refine⟨I.ok,I.os,I.bare,⟨λb o e n hb hx=>?_,λb o e n hb hx=>?_,I.base.free,λb o e hx=>?_,I.base.tups,I.base.jV,I.base.jW⟩,⟨m,⟨o,es,ep,k _ _ (Xa _ _ e λvs q=>by rw[d]at q;cases q) e,d,r⟩,λi y v h1 h2 h3=>?_⟩,λy c e=>?_,I.free,I.dJ,λp hp2=>?_,λb u e=>?_,I.len⟩
 .
  exact k b o (La b o e) (I.base.keep b o e n hb hx)
 .
  obtain⟨sl,e1⟩:=I.base.slot b o e n hb hx
  exact⟨sl,k b _ (La b o e) e1⟩
 .
  obtain⟨o',e1⟩:=I.base.there b o e hx
  exact⟨o',k b _ (La b o e) e1⟩
 .
  obtain⟨u,r,q⟩:=hlk i y v h1 h2 h3
  exact⟨u,r,q.imp id λ⟨q1,c,q2,q3⟩=>⟨q1,c,q2,cellK c _ q3⟩⟩
 .
  obtain⟨v,q⟩:=I.cell y c e
  exact⟨v,cellK c v q⟩
 .
  rw[hp]at hp2;cases hp2
 .
  refine (I.hok b u e).stay (λc w hc q=>k c w (λz=>?_) q) (λ_ q=>q) λ_ _ q=>q
  subst z
  rcases hc with rfl |hc
  .
   rw[hH]at e;cases e
  .
   rw[hH]at hc;cases hc
theorem vo(I:L2.Inv X [] σ H s)(hp:X.pn=[])(fl:uD X.s₀.heap x C H s.heap)(h:∀s',L2.Inv X [] σ H s'->uD X.s₀.heap x C H s'.heap->Q () s') :
  wpAny M A (setFlight (.ref x) none) Q E s:=by
 obtain⟨⟨oe,vs,he,hc,bD,hd,jS,hT⟩,U0,U1⟩:=id fl
 unfold setFlight
 rcases hT with hT |⟨T,oT,ts,h1,Rg,YH,YJ,Je,Jf,h3⟩
 .
  refine aad (aaR he hd hT ?_)
  rw[aau (by decide)]
  exact aak (h s I fl)
 .
  refine aad (aaR he hd h1 ?_)
  rw[aav (show (Value.ref T != Value.none)=true from by simp)]
  refine ab1 Je Jf (abv.mp h3).1 ?_
  have other:∀b,b≠T->(s.heap.update T (Obj.mapFields (·.setIfInBounds 3 Value.none))).get? b=s.heap.get? b:=λb hb=>aaJ _ _ (aaX hb)
  have Xc:=abm Jf (·.setIfInBounds 3 Value.none)
  have WK:=abi (Obj.mapFields (·.setIfInBounds 3 Value.none)) Je (abD Xc)
  refine h _ (Inv.touch I hp YH YJ ⟨oT,ts,Je,Jf⟩ (λb o hb e=>(other b hb).trans e) ⟨_,WK⟩) ⟨⟨oe,vs,(other x (aaX Rg)).trans he,hc,bD,hd,jS,.inr ⟨T,_,_,h1,Rg,YH,YJ,WK,Xc,?_⟩⟩,U0,U1⟩
  have:=(abv.mp h3).1
  simp[this]
theorem Inv.Ry(I:L2.Inv X [] σ H s)(hp:X.pn=[])(fl:uD X.s₀.heap x C H s.heap):L2.Inv X [] σ (upd H x (xx C x)) s:=by
 obtain⟨⟨oe,vs,he,hc,bD,hd,jS,hT⟩,U0,U1⟩:=id fl
 have La:∀b o,X.s₀.heap.get? b=some o->b≠x:=λb o e q=>by rw[q,U0]at e;cases e
 have Xa:∀b o,s.heap.get? b=some o->(∀vs,o.data≠.fields vs)->b≠x:=λb o e d q=>by rw[q,he]at e;cases e;exact d _ hd
 have Xd:∀b u,H b=some u->b≠x:=λb u e q=>by rw[q,U1]at e;cases e
 refine⟨I.ok,I.os,I.bare,⟨I.base.keep,I.base.slot,λb o e n hx=>?_,I.base.there,λb xs e=>?_,λb o u e=>?_,λb ps e=>?_⟩,I.loc,I.cell,?_,λy c e=>?_,λp hp2=>?_,λb u e=>?_,I.len⟩
 .
  rw[az (La b o e)];exact I.base.free b o e n hx
 .
  have:=I.base.tups b xs e
  rw[az (Xd _ _ this)];exact this
 .
  have:=I.base.jV b o u e
  rw[az (Xd _ _ this)];exact this
 .
  obtain⟨more,this⟩:=I.base.jW b ps e
  exact⟨more,by rw[az (Xd _ _ this)];exact this⟩
 .
  obtain⟨m,⟨o,es,ep,e,d,_⟩,_⟩:=I.loc
  rw[az (Xa _ _ e λvs q=>by rw[d]at q;cases q)];exact I.free
 .
  obtain⟨v,o,e1,d⟩:=I.cell y c e
  rw[az (Xa _ _ e1 λvs q=>by rw[d]at q;cases q)];exact I.dJ y c e
 .
  rw[hp]at hp2;cases hp2
 .
  by_cases hb:b=x
  .
   subst hb;rw[aE]at e;cases e
   refine⟨⟨oe,he,hc,?_,bD⟩,⟨oe,he⟩,λh1 h2 ⟨o,q,r⟩ k=>⟨o,k o q,r⟩⟩
   unfold PySem.W.notCls;rw[hd]
  .
   rw[az hb]at e
   exact (I.hok b u e).stay (λ_ _ _ q=>q) (λc q=>by rw[az (Xd _ _ q)];exact q) λc xs q=>by rw[az (Xd _ _ q)];exact q
abbrev Cx.marked(X:Cx)(e:Value)(E:Value->Shared->Prop):Cx:={ X with A:=X.A.mark (some e),calm:=false,xe:=E}
theorem Inv.marked(I:L2.Inv X ah σ H s)(e:Value)(E:Value->Shared->Prop):L2.Inv (Cx.marked X e E) ah σ H s:=
 ⟨⟨I.ok.mod,I.ok.kind,I.ok.glob,I.ok.blt,I.ok.above,I.ok.inj,I.ok.has,I.ok.O5,(λh=>nomatch h),I.ok.frames,I.ok.stk,I.ok.UJ,I.ok.bs,I.ok.DG,I.ok.uE,I.ok.wM,I.ok.jX,I.ok.Jp⟩,I.os,I.bare,I.base,I.loc,I.cell,I.free,I.dJ,I.pin,I.hok,I.len⟩
theorem Inv.unmarked(ok:X.Ok)(I:L2.Inv (Cx.marked X e E) ah σ H s):L2.Inv X ah σ H s:=
 ⟨ok,I.os,I.bare,I.base,I.loc,I.cell,I.free,I.dJ,I.pin,I.hok,I.len⟩
theorem Inv.gone(I:L2.Inv X [] σ H s)(hp:X.pn=[])(hN:X.N.Nodup)(hi:X.N[i]?=some n)(hlk:∀(j:Nat) (y:Str) (v:V),X.N[j]?=some y->σ[j]?=some (some v)->nI X.env.scope y->∃u,RelV v u/\Look X.env s.heap m y u)
  {h':Heap}{w:Option Value}{tk:Nat} (hn':h'.Ns X.env.locals (λy=>if y=n then w else m y)) (hs:Heap.SameBut X.env.locals s.heap h'):L2.Inv X [] (σ.set i none) H { s with heap:=h',toks:=tk}:=by
 have La:∀b o,X.s₀.heap.get? b=some o->b≠X.env.locals:=λb o e=>aaG (aan (aas e) I.ok.above)
 refine⟨I.ok,I.os,I.bare,⟨λb o e n hb hx=>?_,λb o e n hb hx=>?_,I.base.free,λb o e hx=>?_,I.base.tups,I.base.jV,I.base.jW⟩,⟨_,hn',λj y v h1 h2 h3=>?_⟩,λy c e=>?_,I.free,I.dJ,λp hp2=>?_,λb u e=>?_,by rw[aa2];exact I.len⟩
 .
  exact (hs.2 b (La b o e)).trans (I.base.keep b o e n hb hx)
 .
  obtain⟨sl,e1⟩:=I.base.slot b o e n hb hx
  exact⟨sl,(hs.2 b (La b o e)).trans e1⟩
 .
  obtain⟨o',e1⟩:=I.base.there b o e hx
  exact⟨o',(hs.2 b (La b o e)).trans e1⟩
 .
  by_cases hj:j=i
  .
   subst hj
   have hl:j<σ.length:=by rw[I.len];exact (aai.mp h1).1
   rw[aax hl]at h2;cases h2
  .
   rw[aar (aaX hj)]at h2
   obtain⟨u,r,q⟩:=hlk j y v h1 h2 h3
   refine⟨u,r,?_⟩
   have hyn:y≠n:=λq=>hj (n6 hN h1 (q▸hi))
   rcases q with ⟨k,e⟩ |⟨k,c,e,z⟩
   .
    exact .inl ⟨k,by show (if y=n then w else m y)=some u;rw[aau hyn];exact e⟩
   .
    exact .inr ⟨k,c,e,z.sameBut hs (Inv.cnl I y c e)⟩
 .
  obtain⟨v,q⟩:=I.cell y c e
  exact⟨v,q.sameBut hs (Inv.cnl I y c e)⟩
 .
  rw[hp]at hp2;cases hp2
 .
  refine (I.hok b u e).stay (λc w hc q=>(hs.2 c (λz=>?_)).trans q) (λ_ q=>q) λ_ _ q=>q
  subst z
  rcases hc with hc |hc
  .
   rw[<- hc,I.free]at e;cases e
  .
   rw[I.free]at hc;cases hc
end
end Ev
namespace PySem
section
variable{M:Model}{A:Around}{E:Value->Shared->Prop}
variable{nm q:Str}{C N:Addr}{bs bm:List Value}{hdct:Bool}{sn:List Str}{sub:List Value}{ab:Bool}{col:Option Bool}{dd:Option Addr}{k0 k1 k2 k3 k5:Option Value}{newId:String}
variable{nm' q':Str}{D N':Addr}{bs' bm':List Value}{N9:Bool}{sn':List Str}{sub':List Value}{ab':Bool}{col':Option Bool}{dd':Option Addr}{k0' k1' U5 k3' k5':Option Value}{newId':String}
theorem jc{h:Heap}{g:Array GenState}{d:Drawn}{t:Nat}{os:OsState}{e:Addr}{oe:Obj}{Q:Bool->Shared->Prop}
  (hC:h.get? C=some (excClassObj nm q C N bs bm hdct sn sub ab col dd k0 k1 k2 k3 k5 newId)) (hD:h.get? D=some (excClassObj nm' q' D N' bs' bm' N9 sn' sub' ab' col' dd' k0' k1' U5 k3' k5' newId'))
  (he:h.get? e=some oe) (hcls:oe.cls=.ref C) (hbase:bm'.contains (.type "BaseException")=true) (hup:(Value.ref C::bm).contains (.ref D)=true)
  (hq:Q true ⟨h,g,d,t,os⟩):wpAny M A (excMatches (.ref e) (.ref D)) Q E ⟨h,g,d,t,os⟩:=by
 have hcB:(Value.ref D::bm').contains (.type "BaseException")=true:=by rw[List.contains_cons,hbase,Bool.or_true]
 have f:=tc_notTuple
 unfold excMatches
 repeat (first | (with_reducible refine wpAny_loadPart_at he ?_;rw[hcls]) |with_reducible refine wpAny_loadPart_at hD ?_ | (with_reducible refine wpAny_isSubtype_exc hD ?_;rw[hcB]) | (with_reducible refine wpAny_isSubtype_exc hC ?_;rw[hup]) |wp_step)
 exact hq
end
end PySem
namespace Ev
open L2
noncomputable def qG(K:Frag)(C D:Addr):Bool:=match K.lookup C with
 |some ⟨_,_,.cls cd,_⟩=>cd.mro.contains (.ref D)
 |_=>false
section
variable{X:Cx}{σ:Sg}{H:Hp}{s:Shared}{x C D:Addr}{Q:Flow->Shared->Prop}{E:Value->Shared->Prop}{ke en er:Str}{kp rK rL aQ kP:Pos}{ie ir:Nat}
theorem BR(I:L2.Inv X [] σ H s)(hp:X.pn=[])(d9:X.stack=X.env::X.outer)(hf:X.env.frame=some X.env.locals)(hex:X.ex=[])(fl:uD X.s₀.heap x C H s.heap)(hN:X.N.Nodup)
  (hg:Gl X ke) (hm:X.mg ke=some (.ref D)) (jy:(ke==("__debug__" : Str))=false) (qC:eL X.K C) (qD:eL X.K D) (up:qG X.K C D=true)
  (Y6:X.N[ie]?=some en) (len:X.env.scope.names.lookup en=some .local) (den:(en==("__debug__" : Str))=false) (cen:(en==("__classdict__" : Str))=false)
  (hir:X.N[ir]?=some er) (ler:Loc X.env.scope er) (fer:X.fn er=true\/X.env.scope.names.lookup er=some .local) (hsw:swapsWith (.Name en rL) (some (.Name er rK)) aQ.line X.env=pure false)
  (h:∀s',L2.Inv X [] (((σ.set ie (some (.ref x))).set ir (some (.ref x))).set ie none) (upd H x (xx C x)) s'->Q .next s') :
  wpAny (model X.prog X.w) X.A (noteFrame (.ref x) X.env) (λ_ s2=>wpAny (model X.prog X.w) X.A (setFlight (.ref x) none) (λ_ s3=>wpAny (model X.prog X.w) X.A (handleBy (.ref x) X.env [.ExceptHandler (some (.Name ke kp)) (some en) [.Assign [.Name er rK] (.Name en rL) aQ] kP]) Q E s3) E s2) E s:=by
 refine Br I hp d9 hf hex fl λs2 I2 fl2=>?_
 refine wpAny_handleBy_cons (codeAny_handlers_test ?_) (by intro q;cases q)
 refine fE (X:=Cx.marked X (.ref x) E) (Inv.marked I2 _ _) hg hm ?_ jy
 obtain⟨bm,N,nm,qn,bs,hdct,sn,sub,ab,col,dd,k0,k1,k2,k3,k5,mN,hC,_,_,TC⟩:=tF I2.nh qC
 obtain⟨bm',N',nm',U8,bs',N9,sn',sub',ab',col',dd',k0',k1',U5,k3',k5',mN',hD,_,_,TD⟩:=tF I2.nh qD
 obtain⟨⟨oe,vs,he,hc,_⟩,_⟩:=id fl2
 have hup:(Value.ref C::bm).contains (.ref D)=true:=by
  unfold qG at up
  split at up
  .
   rename_i cd _ ho
   have:=(I2.nh _ _ ho).symm.trans hC
   cases this
   exact up
  .
   cases up
 obtain⟨hh,gg,dr,tt,oo⟩:=s2
 refine jc hC hD he hc (TD.hasType (by decide)) hup ?_
 refine codeAny_handlers_suite_as ?_
 refine vo I2 hp fl2 λs3 I3 fl3=>?_
 have I4:=Inv.Ry I3 hp fl3
 refine iz I4 hN Y6 (.inl len) (v:=.ref x) rfl (λs5 I5=>?_) (.inr len)
 have hl:ie<σ.length:=by rw[I.len];exact (aai.mp Y6).1
 refine aaN (((Js (oh (X:=Cx.marked X (.ref x) (λ_ _=>False)) hN hir ler (dQ Y6 (.inl len) den cen) hsw fer)) [] s5 _ _ { nx:=λσ' H'=>σ'=(σ.set ie (some (.ref x))).set ir (some (.ref x))/\H'=upd H x (xx C x),rt:=λ_ _=>False} (Inv.marked I5 _ _) ⟨.ref x,aax hl,rfl,rfl⟩)) (λf s6 q=>?_) λ_ _ z=>False.elim z
 cases f with
 |next=>
  obtain⟨σ',H',I6,rfl,rfl⟩:=q
  have I7:=Inv.unmarked I.ok I6
  obtain⟨m,hn,hlk⟩:=id I7.loc
  refine wpAny_nameGoes_keeps (m:=m) len hn (by rw[I.ok.kind];rfl) λh' w hn' hs=>?_
  exact h _ (Inv.gone I7 hp hN Y6 hlk hn' hs)
 |ret v=>obtain⟨_,_,_,_,_,q⟩:=q;exact q.elim
 |brk=>obtain⟨_,_,_,q⟩:=q;exact q.elim
 |cont=>obtain⟨_,_,_,q⟩:=q;exact q.elim
end
noncomputable abbrev zN(z:Z)(M:List Addr)(H:Hp):Z:=⟨z.K,H,M,[],z.T⟩
noncomputable def noOwn:Slot->Slot
 |.own _=>.no
 |s=>s
section
variable{z:Z}{g g':G}{σ σ0:Sg}{As aM M M1:List Addr}{H H1:Hp}
theorem Slots.noOwn{K:Frag}(q:Slots K M H g σ As):Slots K M H (g.map Ev.noOwn) σ []:=by
 induction q with
 |nil=>exact .nil
 |no _ ih=>exact .no ih
 |dat r _ ih=>exact .dat r ih
 |own _ _ _ ih=>exact .no ih
theorem Slots.nos'{K:Frag}(σ:Sg):Slots K M H (List.replicate σ.length .no) σ []:=by
 induction σ with
 |nil=>exact .nil
 |cons v σ ih=>exact .no ih
theorem BV{i:Nat}{l:List D}(h:(g.map Ev.noOwn)[i]?=some (.own l)):False:=by
 rw[abq]at h
 cases e:g[i]? with
 |none=>rw[e]at h;cases h
 |some u=>rw[e]at h;cases u <;> cases h
theorem S.into(s:S z g σ As M H)(sl:Slots z.K M H gn σn [])(hn:∀(i:Nat) (l:List D),gn[i]?≠some (.own l)):S (zN z M H) gn σn [] M H where
 sl:=sl
 nd:=abg
 sub:=λa h=>nomatch h
 own:=λi a l e _=>absurd e (hn i l)
 live:=s.live
 keep:=λb o e _ _=>e
 iX:=λ_ h=>h
 m0:=λm hm=>by
  rcases s.live m hm with ⟨xs,e⟩ |e
  .
   intro q;rw[show H m=none from q]at e;cases e
  .
   obtain⟨q,hq,rfl⟩:=aaD.mp e
   obtain⟨ps,h1,_⟩:=s.tab q hq
   intro z;rw[show H q.1=none from z]at h1;cases h1
 bm:=λb h=>nomatch h
 jT:=λp h=>nomatch h
 tab:=s.tab
 tm:=λp h=>s.iX _ (s.tm p h)
 tt:=s.tt
theorem S.after(s:S z g σ As M H)(hA:As=[])(s1:S (zN z M H) g' σ0 aM M1 H1)(st:au M H M1 H1):S z g σ As M1 H1 where
 sl:=s.sl.stay st (λa h=>by rw[hA]at h;cases h)
 nd:=s.nd
 sub:=λa h=>by rw[hA]at h;cases h
 own:=s.own
 live:=s1.live
 keep:=λb o e hb ht=>s1.keep b o (s.keep b o e hb ht) (λh=>nomatch h) ht
 iX:=λm hm=>s1.iX m (s.iX m hm)
 m0:=s.m0
 bm:=s.bm
 jT:=s.jT
 tab:=s1.tab
 tm:=s.tm
 tt:=s.tt
theorem Slots.rM{K:Frag}{i:Nat}{v:Option V}(q:Slots K M H g σ As)(e:g[i]?=some .no):Slots K M H g (σ.set i v) As:=by
 induction q generalizing i with
 |nil=>exact .nil
 |no q ih=>cases i with
  |zero=>exact .no q
  |succ i=>exact .no (ih e)
 |dat r q ih=>cases i with
  |zero=>cases e
  |succ i=>exact .dat r (ih e)
 |own a b q ih=>cases i with
  |zero=>cases e
  |succ i=>exact .own a b (ih e)
theorem S.rM(s:S z g σ As M H)(e:g[i]?=some .no):S z g (σ.set i v) As M H where
 sl:=s.sl.rM e
 nd:=s.nd
 sub:=s.sub
 own:=λj a l e1 e2=>s.own j a l e1 (by
  rw[aar (λq=>by rw[<- q,e]at e1;cases e1)]at e2;exact e2)
 live:=s.live
 keep:=s.keep
 iX:=s.iX
 m0:=s.m0
 bm:=s.bm
 jT:=λp hp=>by
  obtain⟨h1,l,h2⟩:=s.jT p hp
  exact⟨by rw[aar (λq=>by rw[<- q,e]at h2;cases h2)];exact h1,l,h2⟩
 tab:=s.tab
 tm:=s.tm
 tt:=s.tt
end
theorem zI(I:L2.Inv X ah σ H s)(B:aX X.env.scope scope)(nl:∀y∈scope.names,y.2≠.local)
  (BP:∀x c,cl.lookup x=some c->X.env.cells.lookup x=some c/\(x,NameKind.free)∈scope.names) (K8:∀y∈scope.names,y.2=.free->∃c,cl.lookup y.1=some c):lI X.N σ scope cl H s.heap where
 inj:=λx y c h1 h2=>I.ok.inj x y c (BP x c h1).1 (BP y c h2).1
 has:=λx h=>by
  rcases h with h |h
  .
   exact absurd rfl (B.sP _ (L2.mem_of_lookup h))
  .
   exact K8 _ (L2.mem_of_lookup h) rfl
 cell:=λx c h=>⟨I.dJ x c (BP x c h).1,I.cell x c (BP x c h).1⟩
 loc:=λi x v h1 h2 h3=>by
  have hf:scope.names.lookup x=some .free:=by
   rcases h3 with h3 |h3 |h3
   .
    exact absurd rfl (nl _ (L2.mem_of_lookup h3))
   .
    exact absurd rfl (B.sP _ (L2.mem_of_lookup h3))
   .
    exact h3
  have hv:=B.free _ (L2.mem_of_lookup hf) rfl
  obtain⟨m,_,hlk⟩:=I.loc
  obtain⟨u,r,q⟩:=hlk i x v h1 h2 (.inr hv)
  obtain⟨c2,e2⟩:=K8 _ (L2.mem_of_lookup hf) rfl
  rcases q with ⟨k,_⟩ |⟨_,c,e,z⟩
  .
   have k:X.env.scope.names.lookup x=some .local:=k
   rcases hv with hv |hv <;> (have hv:X.env.scope.names.lookup x=_:=hv;rw[k]at hv;cases hv)
  .
   have:=(BP _ _ e2).1
   have this:X.env.cells.lookup x=some c2:=this
   rw[e]at this;cases this
   exact⟨hf,u,c2,r,e2,z⟩
 len:=I.len
theorem lI.un(c:lI N σ scope cl H h)(u:Un fs [] H H' h h'):lI N σ scope cl H' h':=by
 have key:∀x a v,cl.lookup x=some a->h.IsCell a v->h'.IsCell a v:=λx a v e ⟨o,e1,d⟩=>by
  obtain⟨sl,e2⟩:=u.any e1 (c.cell x a e).1 (by simp)
  exact⟨_,e2,d⟩
 refine⟨c.inj,c.has,λx a e=>?_,λi x v h1 h2 h3=>?_,c.len⟩
 .
  obtain⟨hn,v,o,e1,d⟩:=c.cell x a e
  exact⟨u.free a o e1 hn (by simp),v,key x a v e ⟨o,e1,d⟩⟩
 .
  obtain⟨f,w,a,r,e,z⟩:=c.loc i x v h1 h2 h3
  exact⟨f,w,a,r,e,key x a _ e z⟩
section
variable{X:Cx}{zf:Z}{gf:G}{σ σ0:Sg}{M:List Addr}{H:Hp}{s:Shared}{C D p c':Addr}{Q:Flow->Shared->Prop}{y ke en er:Str}{py aG kN kp rK rL aQ kP jR:Pos}{ie ir iy:Nat}
 {N:List Str}{qn:Str}{scope:Scope}{cl:List (Str×Addr)}{body:Expr}{params:Arguments}{pm g6:Value}{g0 Dt:G}
noncomputable abbrev GC (y ke en er:Str) (py aG kN kp rK rL aQ kP jR:Pos):Stmt:=.Try [.Expr (.Call (.Name y py) [] [] aG) kN] [.ExceptHandler (some (.Name ke kp)) (some en) [.Assign [.Name er rK] (.Name en rL) aQ] kP] [] [] jR
structure Oa(X:Cx)(C D:Addr)(y ke en er:Str)(iy ie ir:Nat):Prop where
 pn:X.pn=[]
 st:X.stack=X.env::X.outer
 fr:X.env.frame=some X.env.locals
 ex:X.ex=[]
 calm:X.calm=true
 nd:X.N.Nodup
 gk:Gl X ke
 mg:X.mg ke=some (.ref D)
 dk:(ke==("__debug__" : Str))=false
 qC:eL X.K C
 qD:eL X.K D
 up:qG X.K C D=true
 kC:Dm X.K C
 ie:X.N[ie]?=some en
 le:X.env.scope.names.lookup en=some .local
 de:(en==("__debug__" : Str))=false
 ce:(en==("__classdict__" : Str))=false
 ir:X.N[ir]?=some er
 lr:Loc X.env.scope er
 fn:X.fn er=true\/X.env.scope.names.lookup er=some .local
 iy:X.N[iy]?=some y
 vy:nI X.env.scope y
 dy:(y==("__debug__" : Str))=false
 cy:(y==("__classdict__" : Str))=false
 room:X.A.depth<recursionLimit
structure dZ(params:Arguments)(scope:Scope):Prop where
 co:scope.isCoroutine=false
 gen:scope.isGenerator=false
 kind:scope.kind=.function
 nc:∀x∈scope.names,x.2≠.cell
 nl:∀x∈scope.names,x.2≠.local
 par:params=⟨[],[],none,[],[],none,[]⟩
theorem dZ.bind(h:dZ params scope):bindArgs (PySem.W.kla_fn "<lambda>" qn params body scope cl pm (.ref c') g6) ⟨[],[]⟩=pure []:=by
 rw[h.par];rfl
theorem Rz{ah:List (Addr×Obj)}{i:Nat}{x:Str}{v:V}{pos:Pos}{E:Value->Shared->Prop}{Q:Value->Shared->Prop}(I:L2.Inv X ah σ H s)(hN:X.N[i]?=some x)(hv:nI X.env.scope x)(hd:(x==("__debug__" : Str))=false)(bD:(x==("__classdict__" : Str))=false)(e:σ[i]?=some (some v))(h:∀u,RelV v u->Q u s) :
  wpAny (model X.prog X.w) X.A (eval (.Name x pos) X.env) Q E s:=by
 obtain⟨m,hn,hl⟩:=I.loc
 obtain⟨u,r,l⟩:=hl i x v hN e hv
 have fin:Q u s:=h u r
 rcases l with ⟨hk,hm⟩ |⟨hk,c,hc,hcell⟩
 .
  exact wpAny_Name (wpAny_loadName_local I.ok.kind hk hn hm fin) hd
 .
  rcases hk with hk |hk
  .
   exact wpAny_Name (wpAny_loadName_cell I.ok.kind hk hc hcell fin) hd
  .
   exact wpAny_Name (wpAny_loadName_free I.ok.kind hk hc hcell fin bD) hd
theorem Lb(T:Oa X C D y ke en er iy ie ir)(L:dZ params scope)(I:L2.Inv X [] σ H s)(hS:S zf gf σ [] M H)(hK:zf.K=X.K)(hsw:swapsWith (.Name en rL) (some (.Name er rK)) aQ.line X.env=pure false)(hsx:swapsWith (.Call (.Name y py) [] [] aG) none kN.line X.env=pure false)
  (hy:σ[iy]?=some (some (.ref p))) (ji:gf[ie]?=some .no) (hbr:ir∉zf.bor) (hnr:ie≠ir)
  (hp:H p=some (lH p (PySem.W.kla_obj "<lambda>" qn params body scope cl pm c' g6))) (hc':H c'=some (g8 qn c')) (Cl:lI N σ0 scope cl H s.heap) (hs0:Slots zf.K M H g0 σ0 []) (hn0:∀(i:Nat) (l:List Ev.D),g0[i]?≠some (.own l))
  (hb:∀xe,PassesOwn (model X.prog X.w) (X.A.deeper (PySem.W.envX qn scope s⁻¹ p (.ref c') cl)) (PySem.W.envX qn scope s⁻¹ p (.ref c') cl) xe->FJ (vn X N qn scope p (.ref c') cl s H xe) (zN zf M H) body g0 C Dt)
  (h:∀s' σ' H' M' aB,L2.Inv X [] σ' H' s'->S zf (gf.set ir (.dat (.mC C))) σ' aB M' H'->au M H M' H'->Q .next s') :
  wpAny (model X.prog X.w) X.A (exec (GC y ke en er py aG kN kp rK rL aQ kP jR) X.env) Q X.xe s:=by
 refine wpAny_Try_except (ab2 (aaN (wpAny_Expr_any (Q:=λ_ _=>False) ?_ I.quiet hsx) (λ_ _ z=>False.elim z) λ_ _ z=>z))
 have hpo:s.heap.get? p=some (PySem.W.kla_obj "<lambda>" qn params body scope cl pm c' g6):=(I.hok p _ hp).1
 have W8:s.heap.CodeRec (.ref c') qn:=(I.hok c' _ hc').1
 refine abd (Rz I T.iy T.vy T.dy T.cy hy λu r=>?_)
 cases r
 refine PySem.W.callWith_F0 ⟨_,_,_,_,hpo⟩ (wpAny_call (acr (Gz (R:=λr s'=>∃x H1 aM M1,r=.error (.ref x)/\Dr X.prog X.w X.stack H s (λc o h=>c=.ref C/\o=none/\h=H1) (.ref x) s'/\S (zN zf M H) Dt σ0 aM M1 H1/\au M H M1 H1) I T.calm T.room hpo W8 L.bind L.co L.gen L.kind L.nc Cl (S.into hS hs0 hn0) hb
  λx H1 aM M1 s'' cx S1 st=>⟨x,H1,aM,M1,rfl,cx,S1,st⟩) λr s1 ⟨x,H1,aM,M1,e,cx,S1,st⟩=>?_))
 subst e
 obtain⟨x',C',H',e,I1,fl,e1,_,e3⟩:=FG T.ex I cx
 cases e;cases e1;subst e3
 refine BR I1 T.pn T.st T.fr T.ex fl T.nd T.gk T.mg T.dk T.qC T.qD T.up T.ie T.le T.de T.ce T.ir T.lr T.fn hsw λs' I'=>?_
 have s2:=S.after hS rfl S1 st
 have s3:=s2.laid (o:=xx C x) fl.no
 have s4:S zf gf (σ.set ie (some (.ref x))) [] M1 (upd H' x (xx C x)):=s3.rM ji
 obtain⟨Ra,s5⟩:=s4.gK (i:=ir) (d:=.mC C) (v:=.ref x) hbr (hK▸.mC T.kC (s2.fresh fl.no) aE)
 have s6:S zf (gf.set ir (.dat (.mC C))) (((σ.set ie (some (.ref x))).set ir (some (.ref x))).set ie none) Ra M1 (upd H' x (xx C x)):=s5.rM (by rw[aar (aaX hnr)];exact ji)
 exact h s' _ _ M1 Ra I' s6 (st.trans (au.laid fl.no))
end
end Ev
namespace L2
theorem Xe{CX:Al}{P:Program}{w:World}{K:Frag}{mg:Str->Option Value}{base:Heap}{k:Nat}{f:Addr}{name qual:Str}{params:Arguments}{body:List Stmt}{scope:Scope}{dV kV doc pm bB ct oc:Value}{an od:Option Addr}
  {osl:Array (Option Value)}{N ps:List Str}{A:Around}{outer:List Env}{s:Shared}{H:Hp}{args:Args}{us:List Value}{vs:List V}{Q:VK}{E:XK} (lk:K.lookup f=some ⟨oc,od,.func (PySem.W.fnOf name qual params body scope dV kV doc pm an bB ct),osl⟩) (bD:PySem.W.codeIn K bB qual=true) (S:bV N ps scope)
  (hr:cu (k+1) A) (e0:Eb P w K mg base A outer s H) (hb:BindsTo s (PySem.W.fnOf name qual params body scope dV kV doc pm an bB ct) args (ps.zip us)) (r:Vals vs us) (hl:vs.length=ps.length)
  (hbody:∀s1,Inv (fL CX P w K mg base N qual scope f bB A outer s H E) [] (start N vs) H s1->wpAny (model P w) (A.deeper (envOfC qual scope s⁻¹ f bB)) (execs body (envOfC qual scope s⁻¹ f bB)) (SP (fL CX P w K mg base N qual scope f bB A outer s H E) [] { nx:=λ_ H'=>Q .non H',rt:=Q}) (fL CX P w K mg base N qual scope f bB A outer s H E).xe s1) :
  codeAny (model P w) A (.call (.ref f) args) (CR CX outer P w H s Q E) s:=by
 have KX:K.In s.heap:=e0.mod.Dl.keeps λb o e=>(e0.bs b o e).1
 have lim:s.heap.NoLimit:=e0.mod.nolimit.keeps λb o e=>(e0.bs b o e).1
 have hkind:∀y∈ps.zip us,scope.names.lookup y.1=some .local\/(scope.names.lookup y.1=some .cell/\((cellsFrom (s⁻¹+1) scope.names []).lookup y.1).isSome=true):=λ⟨n,v⟩ hy=>by
  rcases S.par n (acK hy).1 with q |q
  .
   exact .inl q
  .
   exact .inr ⟨q,acf _ _ _ (.inl q)⟩
 refine codeAny_call_function hr.depth (KX _ _ lk) rfl S.co S.gen rfl (PySem.W.codeRec_of KX bD) (hb _ _ _ _ ?_)
 refine wpAny_newFunctionEnv_cells S.kind hkind λenv he s1 x=>?_
 subst he
 refine⟨lim.keeps x.toInCall.keep,codeAny_func ?_⟩
 have I:Inv (fL CX P w K mg base N qual scope f bB A outer s H E) [] (start N vs) H s1:=qX S hr.hd e0 hl r x
 refine aaN (hbody s1 I) (λfl s' hs=>?_) λe s' hs=>hs
 have fin:∀{σ':St}{H':Hp}{v:V}{u:Value},Inv (fL CX P w K mg base N qual scope f bB A outer s H E) [] σ' H' s'->RelV v u->Q v H'->CE outer P w H s Q u s':=
  λ{σ' H' v u} J rv q=>⟨v,H',J.os,J.bare,J.base,J.hok,rv,q⟩
 cases fl with
 |ret u=>
  obtain⟨v,σ',H',J,rv,q⟩:=hs
  exact fin J rv q
 |next=>
  obtain⟨σ',H',J,q⟩:=hs
  exact fin (v:=V.non) (u:=Value.none) J rfl q
 |brk=>
  obtain⟨_,_,_,q⟩:=hs
  exact False.elim q
 |cont=>
  obtain⟨_,_,_,q⟩:=hs
  exact False.elim q
end L2
namespace Ev
open L2
structure RB(K:Frag)(mg:Str->Option Value)(sc:Scope)(N:List Str)(C D:Addr)(y ke en er:Str)(ie ir:Nat):Prop where
 nd:N.Nodup
 gk:sc.names.lookup ke=some .globalImplicit
 mg:mg ke=some (.ref D)
 dk:(ke==("__debug__" : Str))=false
 qC:eL K C
 qD:eL K D
 up:qG K C D=true
 kC:Dm K C
 eN:N[ie]?=some en
 le:sc.names.lookup en=some .local
 de:(en==("__debug__" : Str))=false
 ce:(en==("__classdict__" : Str))=false
 rN:N[ir]?=some er
 lr:Loc sc er
 yN:N[0]?=some y
 vy:nI sc y
 dy:(y==("__debug__" : Str))=false
 cy:(y==("__classdict__" : Str))=false
 ne:ie≠ir
 ie0:ie≠0
 ir0:ir≠0
theorem RB.try{P:Program}{w:World}{K:Frag}{mg:Str->Option Value}{base:Heap}{N:List Str}{qual:Str}{sc:Scope}{f:Addr}{cd:Value}{A:Around}{outer:List Env}{s:Shared}{H:Hp}{E:XK}{C D:Addr}{y ke en er:Str}{ie ir k:Nat}
  (T:RB K mg sc N C D y ke en er ie ir) (hr:cu k (A.deeper (envOfC qual sc s⁻¹ f cd))):Oa (fL uB P w K mg base N qual sc f cd A outer s H E) C D y ke en er 0 ie ir:=
 ⟨rfl,rfl,rfl,rfl,rfl,T.nd,T.gk,T.mg,T.dk,T.qC,T.qD,T.up,T.kC,T.eN,T.le,T.de,T.ce,T.rN,T.lr,.inl rfl,T.yN,T.vy,T.dy,T.cy,by have:=hr.dp;show (A.deeper (envOfC qual sc s⁻¹ f cd)).depth<_;lia⟩
structure pF(X:Cx)(qn:Str)(q c:Addr):Prop where
 hq:(q,qn)∈cF X.K
 hu:∀p∈cF X.K,p.1=q->p.2=qn
 hcode:X.env.code=.ref c
 hC:∀b:Heap,X.K.In b->PySem.W.CodeHd b c q
 hqn:X.env.qual ++ "<lambda>" = qn
 hbi:∀b:Heap,X.K.In b->b.BuiltinsAt X.mg q
 W7:mainGlobals≠q
structure Lt where
 params:Arguments
 body:Expr
 scope:Scope
 pos:Pos
noncomputable abbrev Lt.ex(l:Lt):Expr:=.Lambda l.params l.body l.scope l.pos
def jq(X:Cx)(qn:Str)(M:List Addr)(H:Hp)(l:Lt)(v:V):Prop:=∃p c' g6 cl,v=.ref p/\p∉M/\c'∉M/\H p=some (lH p (PySem.W.kla_obj "<lambda>" qn l.params l.body l.scope cl ((X.mg "__name__").getD .none) c' g6))/\H c'=some (g8 qn c')/\
 (∀x c,cl.lookup x=some c->X.env.cells.lookup x=some c/\(x,NameKind.free)∈l.scope.names)/\∀y∈l.scope.names,y.2=.free->∃c,cl.lookup y.1=some c
theorem jq.stay(st:au M H M' H')(h:jq X qn M H l v):jq X qn M' H' l v:=by
 obtain⟨p,c',g6,cl,e,n1,n2,h1,h2,h3⟩:=h
 exact⟨p,c',g6,cl,e,(st _ _ h1 n1).2,(st _ _ h2 n2).2,(st _ _ h1 n1).1,(st _ _ h2 n2).1,h3⟩
inductive cU(X:Cx)(qn:Str)(M:List Addr)(H:Hp):List Lt->List V->Prop
 |nil:cU X qn M H [] []
 |cons {l:Lt}{ls:List Lt}{v:V}{vs:List V}:jq X qn M H l v->cU X qn M H ls vs->cU X qn M H (l::ls) (v::vs)
theorem cU.stay(st:au M H M' H')(h:cU X qn M H l v):cU X qn M' H' l v:=by
 induction h with
 |nil=>exact .nil
 |cons a _ ih=>exact .cons (a.stay st) ih
theorem cU.push(h:cU X qn M H l v)(e:jq X qn M H x y):cU X qn M H (l++[x]) (v++[y]):=by
 induction h with
 |nil=>exact .cons e .nil
 |cons a _ ih=>exact .cons a ih
theorem cU.get(h:cU X qn M H l v):∀{i:Nat}{x:Lt},l[i]?=some x->∃y,v[i]?=some y/\jq X qn M H x y:=by
 induction h with
 |nil=>intro i x e;cases e
 |cons a _ ih=>intro i x e;cases i with
  |zero=>cases (show some _=some x from e);exact⟨_,rfl,a⟩
  |succ i=>exact ih (i:=i) e
theorem cU.length(h:cU X qn M H l v):l.length=v.length:=by
 induction h with
 |nil=>rfl
 |cons _ _ ih=>exact congrArg (· + 1) ih
section
variable{X:Cx}{z:Z}{g:G}{σ:Sg}{As M:List Addr}{H:Hp}{qn:Str}{q c:Addr}
theorem S.ext(s:S z g σ As M H)(h:H a=some (.ext f)):a∉M:=λhm=>by
 rcases s.live a hm with ⟨xs,e⟩ |e
 .
  rw[h]at e;cases e
 .
  obtain⟨q,hq,rfl⟩:=aaD.mp e
  obtain⟨ps,h1,_⟩:=s.tab q hq
  rw[h]at h1;cases h1
theorem S.RC(s:S z g σ As M H)(hm:a∈M)(hA:a∉As)(h0:z.H0 a=none)(h:H a=some (.lst xs)):S z g σ As M (upd H a (.lst xs')) where
 sl:=s.sl.stay (au.write hm) λb hb u e=>by rw[az (show b≠a from λq=>hA (by rw[<- q];exact hb))];exact e
 nd:=s.nd
 sub:=s.sub
 own:=s.own
 live:=λm hm=>by
  by_cases e:m=a
  .
   subst e;exact .inl ⟨_,aE⟩
  .
   rcases s.live m hm with ⟨ys,q⟩ |q
   .
    exact .inl ⟨ys,by rw[az e];exact q⟩
   .
    exact .inr q
 keep:=λb o e hb ht=>by rw[az (λq=>by rw[q,h0]at e;cases e)];exact s.keep b o e hb ht
 iX:=s.iX
 m0:=s.m0
 bm:=s.bm
 jT:=s.jT
 tab:=λp hp=>(s.tab p hp).keep λb o e n=>by rw[az (λq=>by rw[q,h]at e;cases e;exact n _ rfl)];exact e
 tm:=s.tm
 tt:=s.tt
noncomputable def tLam(X:Cx)(z:Z)(g:G)(qn:Str)(l:Lt):TE:=λσ H Q=>∃As M,S z g σ As M H/\∀v H',S z g σ As M H'->au M H M H'->jq X qn M H' l v->(∀b xs,H b=some (.lst xs)->H' b=some (.lst xs))->Q v H'
theorem xU(hK:z.K=X.K)(mk:pF X qn q c)(B:aX X.env.scope l.scope)(L:dZ l.params l.scope):PE X l.ex (tLam X z g qn l):=by
 intro ah s σ H Q I ⟨As,M,hs,hQ⟩
 exact Gy I hs (by rw[hs.tt,hK];exact mk.hq) (by rw[hs.tt,hK];exact mk.hu) mk.hcode (mk.hC _ I.ok.mod.Dl) mk.hqn (mk.hbi _ I.ok.mod.Dl) mk.W7 (by rw[L.par];rfl) B λp c' g6 cl H' s' I' S' st' np h1 h2 c1 c2 kl=>⟨.ref p,H',I',rfl,hQ _ H' S' st' ⟨p,c',g6,cl,rfl,np,S'.ext h2,h1,h2,c1,c2⟩ kl⟩
end
section
variable{X:Cx}{z:Z}{g g0 g3 Dt:G}{σ σ0:Sg}{As M:List Addr}{H:Hp}{s:Shared}{ah:List (Addr×Obj)}{N:List Str}{r r':R}{fx y ke en er qual qn:Str}{py Xg kN kp rK rL aQ kP jR RD xV np:Pos}{ie ir j k:Nat}{st:Stmt}{rest:List Stmt}{f C D p c':Addr}{fd:FuncData}{Nf:List Str}{params:Arguments}{body:Expr}{scope:Scope}{cl:List (Str×Addr)}{pm g6:Value}
theorem RJ(hK:z.K=X.K)(hr:cu (k+2) X.A)(hcalm:X.calm=true)(Ff:Jd X.K fx qual st f fd)(d9:cD st=.Assign [.Name er xV] (.Constant .none j np) RD::GC y ke en er py Xg kN kp rK rL aQ kP jR::rest)(Sc:bV Nf [y] (aD st))
  (hbd:L2.Binds X.K fd [y] []) (T:RB X.K X.mg (aD st) Nf C D y ke en er ie ir) (L:dZ params scope)
  (hbE:∀(Xf:Cx) (s:Shared) (H:Hp) (xe:Value->Shared->Prop) (zl:Z),Xf.prog=X.prog->Xf.w=X.w->Xf.K=X.K->Xf.mg=X.mg->Xf.base=X.base->cu (k+1) Xf.A->Xf.calm=true->PassesOwn (model Xf.prog Xf.w) (Xf.A.deeper (PySem.W.envX qn scope s⁻¹ p (.ref c') cl)) (PySem.W.envX qn scope s⁻¹ p (.ref c') cl) xe->zl.K=X.K->zl.bor=[]->FJ (vn Xf N qn scope p (.ref c') cl s H xe) zl body g0 C Dt)
  (hrest:∀(bB:Value) (A:Around) (outer:List Env) (s:Shared) (H:Hp) (E:XK),PySem.W.codeIn X.K bB qual=true->cu k (A.deeper (envOfC qual (aD st) s⁻¹ f bB))->∀zf:Z,zf.K=X.K->zf.bor=[]->dW (fL uB X.prog X.w X.K X.mg X.base Nf qual (aD st) f bB A outer s H E).mj zf rest ((List.replicate Nf.length .no).set ir (.dat (.mC C))) (.rt r) g3)
  (ho:dz [] g3 r=some r') (I1:L2.Inv X ah σ H s) (S1:S z g σ As M H) (hp1:H p=some (lH p (PySem.W.kla_obj "<lambda>" qn params body scope cl pm c' g6))) (hc1:H c'=some (g8 qn c')) (Cl0:lI N σ0 scope cl H s.heap) (hs0:Slots z.K M H g0 σ0 []) (hn0:∀(i:Nat) (l:List Ev.D),g0[i]?≠some (.own l))
  {us:List Value} (rv:Vals [.ref p] us) {E:Value->Shared->Prop}{Q:Value->Shared->Prop} (hQ:∀u v H' s' aB M',L2.Inv X ah σ H' s'->RelV v u->S z g σ aB M' H'->au M H M' H'->cL z g σ aB M' H' r' v->Q u s'):wpAny (model X.prog X.w) X.A (call (.ref f) us) Q E s:=by
 obtain⟨oc,od,kV,doc,pm,an,bB,ct,osl,rfl,lk,bD⟩:=Ff.ex
 have aL:us.length=1:=by rw[<- rv.length];rfl
 refine wpAny_call (acr (Xe (CX:=uB) (k:=k+1) (N:=Nf) (Q:=λv H'=>∃aB M',S z g σ aB M' H'/\au M H M' H'/\cL z g σ aB M' H' r' v) (E:=λ_ _ _=>False) lk bD Sc hr I1.Jw (by have:=hbd s us I1.nh (by rw[aaV];exact aL);rw[aaV]at this;exact this) rv rfl λs2 J=>?_) λrr s' hq'=>?_)
 ·
  rw[d9]
  have hr1:cu (k+1) (X.A.deeper (envOfC qual (aD st) s⁻¹ f bB)):=hr.deeper _
  have hr2:cu k (X.A.deeper (envOfC qual (aD st) s⁻¹ f bB)):=hr1.mono (acj k)
  have TT:=T.try (P:=X.prog) (w:=X.w) (base:=X.base) (qual:=qual) (f:=f) (cd:=bB) (A:=X.A) (outer:=X.stack) (s:=s) (H:=H) (E:=λ_ _ _=>False) hr2
  have hNl:0<Nf.length:=(aai.mp T.yN).1
  refine ab2 (aaN ((oh (X:=(fL uB X.prog X.w X.K X.mg X.base Nf qual (aD st) f bB X.A X.stack s H (λ_ _ _=>False)).wish λ_ _=>False) T.nd T.rN T.lr DN rfl (.inl rfl)) [] s2 _ _ { nx:=λσ' H'=>σ'=(start Nf [.ref p]).set ir (some .non)/\H'=H,rt:=λ_ _=>False} (J.wish _) ⟨rfl,rfl⟩) (λfl s3 q3=>?_) λ_ _ z=>False.elim z)
  cases fl with
  |ret u=>obtain⟨_,_,_,_,_,q⟩:=q3;exact q.elim
  |brk=>obtain⟨_,_,_,q⟩:=q3;exact q.elim
  |cont=>obtain⟨_,_,_,q⟩:=q3;exact q.elim
  |next=>
   obtain⟨σ3,H3,I3,e1,e2⟩:=q3
   subst e1 e2
   have I3:=I3.cP
   have len0:(start Nf [.ref p]).length=Nf.length:=by
    have:=J.len;exact this
   have Xh:Slots z.K M H3 (List.replicate Nf.length .no) (start Nf [.ref p]) []:=by rw[<- len0];exact Slots.nos' _
   have Xi:∀(i:Nat) (l:List Ev.D),(List.replicate Nf.length Slot.no)[i]?≠some (.own l):=λi l e=>by
    have:=aaP e
    rw[abB]at this
    cases this.2
   have S3:S (zN z M H3) (List.replicate Nf.length .no) (start Nf [.ref p]) [] M H3:=S.into S1 Xh Xi
   obtain⟨nq,S4⟩:=S3.gK (i:=ir) (d:=.non) (v:=.non) (λh=>nomatch h) .non
   have hA4:nq=[]:=by
    have key:∀{g:G}{σ:Sg}{As:List Addr},Slots z.K M H3 g σ As->(∀(i:Nat) (l:List Ev.D),g[i]?≠some (.own l))->As=[]:=λq=>by
     induction q with
     |nil=>intro _;rfl
     |no _ ih=>intro h;exact ih λi l e=>h (i+1) l e
     |dat _ _ ih=>intro h;exact ih λi l e=>h (i+1) l e
     |own _ _ _ ih=>intro h;exact absurd rfl (h 0 _)
    refine key S4.sl λi l e=>?_
    by_cases hi:i=ir
    .
     subst hi
     rw[aax (by rw[aaB];exact (aai.mp T.rN).1)]at e
     cases e
    .
     rw[aar (aaX hi)]at e;exact Xi i l e
   subst hA4
   have hy:((start Nf [.ref p]).set ir (some .non))[0]?=some (some (.ref p)):=by
    rw[aar T.ir0];rfl
   have ji:((List.replicate Nf.length Slot.no).set ir (.dat .non))[ie]?=some .no:=by
    rw[aar (aaX T.ne),ab6,aav (aai.mp T.eN).1]
   have un3:Un (frs X.stack) [] H3 H3 s.heap s3.heap:=I3.base
   have U9:(zN z M H3).K=(fL uB X.prog X.w X.K X.mg X.base Nf qual (aD st) f bB X.A X.stack s H3 (λ_ _ _=>False)).K:=hK
   refine ab2 (Lb (zf:=zN z M H3) (g0:=g0) (σ0:=σ0) (N:=N) TT L I3 S4 U9 rfl rfl hy ji (λh=>nomatch h) T.ne hp1 hc1 (Cl0.un un3) hs0 hn0
    (λxe hx=>hbE _ s3 H3 xe _ rfl rfl rfl rfl rfl hr1 rfl hx hK rfl) λs4 σ4 H4 M4 nq I4 S5 uI=>?_)
   obtain⟨t,pt,kt⟩:=hrest bB X.A X.stack s H3 (λ_ _ _=>False) bD hr2 (zN z M H3) hK rfl
   rw[List.set_set]at S5
   refine pt.mj [] s4 σ4 H4 _ I4 (kt σ4 nq M4 H4 _ S5 λv σ5 Ra M5 H5 S6 st6 R6=>?_)
   obtain⟨M6,S7,st7,R7⟩:=S1.leave (rs:=[]) (vs:=[]) (gs:=[]) (gO:=g) .nil rfl abg S6 (uI.trans st6) R6 rfl ho
   exact⟨_,M6,S7,st7,R7⟩
 .
  cases rr with
  |error ev=>exact False.elim hq'
  |ok flw=>
   cases flw with
   |ret u=>
    obtain⟨v,H',I',r1,aB,M',a,b,d⟩:=I1.after (Q:=λv H'=>∃aB M',S z g σ aB M' H'/\au M H M' H'/\cL z g σ aB M' H' r' v) hq'
    exact hQ u v H' s' aB M' I' r1 a b d
   |next=>exact False.elim hq'
   |brk=>exact False.elim hq'
   |cont=>exact False.elim hq'
end
noncomputable def xW(Y X:Cx)(z:Z)(g:G)(qn:Str)(l:Lt)(r':R)(f:Addr):Prop:=
 ∀{ah:List (Addr×Obj)}{σ1 σ0:Sg}{H1:Hp}{s1:Shared}{g1:G}{As A0 M:List Addr}{p c':Addr}{cl:List (Str×Addr)}{pm g6:Value}{us:List Value}{Q E:Value->Shared->Prop},L2.Inv Y ah σ1 H1 s1->S z g1 σ1 As M H1->H1 p=some (lH p (PySem.W.kla_obj "<lambda>" qn l.params l.body l.scope cl pm c' g6))->H1 c'=some (g8 qn c')->
  lI X.N σ0 l.scope cl H1 s1.heap->Slots z.K M H1 g σ0 A0->Vals [.ref p] us->(∀u v H' s' aB M',L2.Inv Y ah σ1 H' s'->RelV v u->S z g1 σ1 aB M' H'->au M H1 M' H'->cL z g1 σ1 aB M' H' r' v->Q u s')->wpAny (model Y.prog Y.w) Y.A (call (.ref f) us) Q E s1
section
variable{X:Cx}{z:Z}{g:G}{r':R}{fx qual qn:Str}{fp aG:Pos}{st:Stmt}{f q c:Addr}{fd:FuncData}{l:Lt}
theorem Lc(hK:z.K=X.K)(Ff:Jd X.K fx qual st f fd)(hg:Gl X fx)(hm:X.mg fx=some (.ref f))(jy:(fx==("__debug__" : Str))=false)(mk:pF X qn q c)(B:aX X.env.scope l.scope)(L:dZ l.params l.scope)(hcall:xW X X z g qn l r' f):aA X z (.Call (.Name fx fp) [l.ex] [] aG) g r' g:=by
 refine⟨λσ H Q=>∃As M,S z g σ As M H/\∀v H' aB M',S z g σ aB M' H'->au M H M' H'->cL z g σ aB M' H' r' v->Q v H',λah s σ H Q I ⟨As,M,hs,hQ⟩=>?_,λσ As M H Q s kq=>⟨As,M,s,λv H' aB M'=>kq v H' aB M'⟩⟩
 refine abd (fE I hg hm ?_ jy)
 refine abS (h₀:=X.base) I.ok.mod.Dl Ff.kp (aaN ((bG (xU (z:=z) (g:=g) hK mk B L) gJ rfl) aG ah s σ H (λvs H'=>∃v,vs=[v]/\S z g σ As M H'/\au M H M H'/\jq X qn M H' l v) I ⟨As,M,hs,λv H' a b d _=>⟨v,rfl,a,b,d⟩⟩) (λus s1 q1=>?_) λ_ _ z=>z) rfl rfl
 obtain⟨vs,H1,I1,rv,_,rfl,S1,cO,p,c',g6,cl,rfl,np1,nc1,hp1,hc1,BP,K8⟩:=q1
 exact⟨I1.nh,hcall I1 S1 hp1 hc1 (zI I1 B L.nl BP K8) S1.sl rv λu v H' s' aB M' I' r1 a b d=>⟨v,H',I',r1,hQ v H' aB M' a (cO.trans b) d⟩⟩
end
section
variable{X:Cx}{z:Z}
theorem GD(hw:∀u,RelV w u->u=cv):fF X (.builtin "isinstance") (λxs H Q=>∃x M d b,xs=[x,w]/\Pk X.K M H d x/\PySem.W.kitOne X.K (Dn d) cv=some b/\Q (.bl b) H):=by
 intro ah s σ H xs us Q I r h
 obtain⟨x,M,d,b,rfl,p,e,q⟩:=h
 obtain⟨u,w',rfl,r1,r2⟩:=vals2 r
 obtain rfl:=hw _ r2
 exact Ey I p r1 e λtk=>⟨.bl b,H,I.tok tk,rfl,q⟩
theorem GF(hK:z.K=X.K)(h:aA X z a g r1 g1)(hp:pk r1 g1=some d)(he:∀M H v,Pk X.K M H d v->PySem.W.kitOne X.K (Dn d) cv=some b)
  (hg:Gl X "isinstance") (hm:X.mg "isinstance" = none) (hv:bootBuiltins "isinstance" = some (.builtin "isinstance")) (hw:∀u,RelV w u->u=cv) (Z9:PE X (.Name T pT) (tC w))
  (hs:starEach [a,.Name T pT] X.env=(false,eval a X.env)::starEach [.Name T pT] X.env):aA X z (.Call (.Name "isinstance" p) [a,.Name T pT] [] pos) g (.dat (.bl b)) g1:=by
 obtain⟨t,q,k⟩:=h
 refine⟨_,jZ (GD hw) hg hm hv (bG q (bG Z9 gJ) hs) (by decide) (by decide) hs,λσ As M H Q s kk=>k σ As M H _ s λv H' aB M' s' st R=>?_⟩
 have p:=hK▸s'.pk (au.refl _ _) R hp
 exact⟨v,M',d,b,rfl,p,he _ _ _ p,kk _ H' aB M' s' st (.bl b)⟩
end
open L2 PySem.W
noncomputable def gG:Slot->Slot
 |.own l=>.dat (.lst l)
 |s=>s
noncomputable def flat:D->Bool
 |.non=>true
 |.bl _=>true
 |.int _=>true
 |.str _=>true
 |_=>false
theorem Rep.flat{K:Frag}{M M':List Addr}{H H':Hp}{d:D}{v:V}(r:Rep K M H d v)(h:Ev.flat d=true):Rep K M' H' d v:=by
 cases r with
 |non=>exact .non
 |bl b=>exact .bl b
 |int i=>exact .int i
 |str x=>exact .str x
 |_=>cases h
section
variable{z:Z}{g g':G}{σ:Sg}{As aM M M1:List Addr}{H H1:Hp}
theorem Slots.atA{K:Frag}(q:Slots K M H g σ As){a:Addr}(h:a∈As):∃(i:Nat) (l:List D) (xs:List V),g[i]?=some (Slot.own l)/\σ[i]?=some (some (V.ref a))/\H a=some (.lst xs):=by
 induction q with
 |nil=>cases h
 |no _ ih=>obtain⟨i,l,xs,h1,h2,h3⟩:=ih h;exact⟨i+1,l,xs,h1,h2,h3⟩
 |dat _ _ ih=>obtain⟨i,l,xs,h1,h2,h3⟩:=ih h;exact⟨i+1,l,xs,h1,h2,h3⟩
 |own e _ _ ih=>
  rcases aaj.mp h with rfl |h
  .
   exact⟨0,_,_,rfl,rfl,e⟩
  .
   obtain⟨i,l,xs,h1,h2,h3⟩:=ih h;exact⟨i+1,l,xs,h1,h2,h3⟩
theorem Slots.gG{K:Frag}{M0:List Addr}(q:Slots K M H g σ As)(hl:∀m∈M0,m∈M)(hn:∀a∈As,a∉M0):Slots K M0 H (g.map Ev.gG) σ []:=by
 induction q with
 |nil=>exact .nil
 |no _ ih=>exact .no (ih hn)
 |dat r _ ih=>exact .dat (r.stay (au.less hl)) (ih hn)
 |own e r _ ih=>exact .dat (.lst ⟨hn _ aah,e⟩ (r.stay (au.less hl))) (ih λa ha=>hn a (aaf _ ha))
theorem Ld{i:Nat}{l:List D}(h:(g.map Ev.gG)[i]?=some (.own l)):False:=by
 rw[abq]at h
 cases e:g[i]? with
 |none=>rw[e]at h;cases h
 |some u=>rw[e]at h;cases u <;> cases h
theorem S.h0(s:S z g σ As M H)(hb:z.bor=[])(h:a∈As):z.H0 a=none:=by
 obtain⟨i,l,xs,h1,h2,_⟩:=s.sl.atA h
 rcases s.own i a l h1 h2 with ⟨q,_⟩ |q
 .
  rw[hb]at q;cases q
 .
  exact q
theorem S.RK(s:S z g σ As M H)(hb:z.bor=[]):S z (g.map Ev.gG) σ [] (M.filter λm=>decide (m∉As)) H where
 sl:=s.sl.gG (λm hm=>(aaE.mp hm).1) λa ha hm=>by have:=(aaE.mp hm).2;simp at this;exact this ha
 nd:=abg
 sub:=λa h=>nomatch h
 own:=λi a l e _=>(Ld e).elim
 live:=λm hm=>s.live m (aaE.mp hm).1
 keep:=s.keep
 iX:=λm hm=>aaE.mpr ⟨s.iX m hm,by
  have:m∉As:=λh=>s.m0 m hm (s.h0 hb h)
  simpa using this⟩
 m0:=s.m0
 bm:=s.bm
 jT:=λp hp=>by
  have:p.1∈z.bor:=abb (f:=(·.1)) hp
  rw[hb]at this;cases this
 tab:=s.tab
 tm:=s.tm
 tt:=s.tt
theorem S.thaw(s:S z g σ As M H)(hb:z.bor=[]){g1:G}{σ1:Sg}(s1:S z g1 σ1 aM M1 H1)(st:au (M.filter λm=>decide (m∉As)) H M1 H1):S z g σ As (As++M1) H1/\au M H (As++M1) H1:=by
 have nA:∀a∈As,a∉M.filter λm=>decide (m∉As):=λa ha hm=>by have:=(aaE.mp hm).2;simp at this;exact this ha
 have stM:au M H (As++M1) H1:=λb o e hb'=>by
  have h1:=st b o e λhm=>hb' (aaE.mp hm).1
  refine⟨h1.1,λhm=>?_⟩
  rcases abH.mp hm with hm |hm
  .
   exact hb' (s.sub b hm)
  .
   exact h1.2 hm
 have lists:∀a∈As,∃xs,H1 a=some (.lst xs):=λa ha=>by
  obtain⟨_,_,xs,_,_,e⟩:=s.sl.atA ha
  exact⟨xs,(st a _ e (nA a ha)).1⟩
 refine⟨⟨s.sl.stay stM λa ha o e=>(st a o e (nA a ha)).1,s.nd,λa ha=>abZ _ ha,s.own,λm hm=>?_,s1.keep,λm hm=>aaM _ (s1.iX m hm),s.m0,s.bm,s.jT,s1.tab,s.tm,s.tt⟩,stM⟩
 rcases abH.mp hm with hm |hm
 .
  exact .inl (lists m hm)
 .
  exact s1.live m hm
theorem Le(hb:z.bor=[])(hf:Ev.flat d=true)(h:aA X z e (g.map Ev.gG) (.dat d) g1):aA X z e g (.dat d) g:=by
 obtain⟨t,q,k⟩:=h
 refine⟨t,q,λσ As M H Q s kk=>k σ [] _ H Q (s.RK hb) λv H1 aM M1 s1 st R=>?_⟩
 obtain⟨a,b⟩:=s.thaw hb s1 st
 exact kk v H1 As _ a b (Rep.flat R hf)
end
def LL(X:Cx)(z:Z)(g:G)(qn:Str)(ic:Nat)(M0:List Addr)(H0:Hp)(ls:List Lt)(σ:Sg)(H:Hp):Prop:=
 ∃As M a vs,S z g σ As M H/\au M0 H0 M H/\σ[ic]?=some (some (.ref a))/\a∈M/\a∉As/\z.H0 a=none/\H a=some (.lst vs)/\cU X qn M H ls vs
theorem xX{n:Nat}(h:n<1000):n<=sizeLine:=by rw[aaY];lia
section
variable{X:Cx}{z:Z}{g:G}{qn y:Str}{q c:Addr}{l:Lt}{ls:List Lt}{ic:Nat}{py lp pos aQ aG pn:Pos}
theorem BW(hK:z.K=X.K)(mk:pF X qn q c)(B:aX X.env.scope l.scope)(L:dZ l.params l.scope)(hN:X.N.Nodup)(hi:X.N[ic]?=some y)(hx:Loc X.env.scope y)(hf:X.fn y=true\/X.env.scope.names.lookup y=some .local)(hg:g[ic]?=some .no) :
  ∃t,PS X (.Assign [.Name y py] (.List [l.ex] lp) pos) t/\∀σ As M H (E:Ends),S z g σ As M H->(∀σ' H',LL X z g qn ic M H [l] σ' H'->E.nx σ' H')->t E σ H:=by
 refine⟨_,oh hN hi hx (Ea (bG (xU (z:=z) (g:=g) hK mk B L) gJ rfl)) rfl hf,λσ As M H E s kE=>⟨As,M,s,λv H' s' st' la kl=>⟨xX (show 1<1000 by decide),λp hp=>kE _ _ ?_⟩⟩⟩
 have s2:=s'.aZ (xs:=[v]) hp
 have hl:ic<σ.length:=by rw[<- s.sl.length];exact (aai.mp hg).1
 have aU:au M H' (p::M) (upd H' p (.lst [v])):=au.aZ hp
 exact⟨As,p::M,p,[v],s2.rM hg,st'.trans aU,aax hl,aah,λh=>s'.fresh hp (s'.sub p h),s'.cQ hp,aE,.cons (la.stay aU) .nil⟩
theorem xY(hK:z.K=X.K)(mk:pF X qn q c)(B:aX X.env.scope l.scope)(L:dZ l.params l.scope)(hi:X.N[ic]?=some y)(hv:nI X.env.scope y)(hd:(y==("__debug__" : Str))=false)(bD:(y==("__classdict__" : Str))=false)(hls:ls.length<1000)(hline:(aQ.endLine==aG.line)=true) :
  ∃t,PS X (.Expr (.Call (.Attribute (.Name y pn) "append" aQ) [l.ex] [] aG) pos) t/\∀σ H M0 H0 (E:Ends),LL X z g qn ic M0 H0 ls σ H->(∀H',LL X z g qn ic M0 H0 (ls++[l]) σ H'->E.nx σ H')->t E σ H:=by
 refine⟨_,sD (y9 abN PySem.F.slot_list_append PySem.F.type_list_append kZ (dQ hi hv hd bD) (bG (xU (z:=z) (g:=g) hK mk B L) gJ rfl) rfl rfl hline rfl rfl) rfl,λσ H M0 H0 E h kE=>?_⟩
 obtain⟨As,M,a,vs,s,st,e1,hm,hA,h0,ha,la⟩:=h
 refine⟨.ref a,e1,.inl ⟨rfl,vs,cK.of ha⟩,As,M,s,λv H' s' st' la' kl=>⟨a,vs,v,rfl,rfl,kl a vs ha,by rw[<- la.length,aaY];lia,kE _ ?_⟩⟩
 exact⟨As,M,a,vs++[v],s'.RC hm hA h0 (kl a vs ha),(st.trans st').trans (au.write hm),e1,hm,hA,h0,aE,((la.stay st').push la').stay (au.write hm)⟩
end
theorem lI.un'(c:lI N σ scope cl H h)(u:Un fs ex H H' h h')(hx:∀x a,cl.lookup x=some a->a∉ex):lI N σ scope cl H' h':=by
 have key:∀x a v,cl.lookup x=some a->h.IsCell a v->h'.IsCell a v:=λx a v e ⟨o,e1,d⟩=>by
  obtain⟨sl,e2⟩:=u.any e1 (c.cell x a e).1 (hx x a e)
  exact⟨_,e2,d⟩
 refine⟨c.inj,c.has,λx a e=>?_,λi x v h1 h2 h3=>?_,c.len⟩
 .
  obtain⟨hn,v,o,e1,d⟩:=c.cell x a e
  exact⟨u.free a o e1 hn (hx x a e),v,key x a v e ⟨o,e1,d⟩⟩
 .
  obtain⟨f,w,a,r,e,z⟩:=c.loc i x v h1 h2 h3
  exact⟨f,w,a,r,e,key x a _ e z⟩
noncomputable def asD:R->Option D
 |.dat d=>some d
 |.new l=>some (.lst l)
 |.var _=>none
theorem xZ(s:S z g σ As M H)(h:cL z g σ As M H r v)(e:asD r=some d):∃M',S z g σ As M' H/\au M H M' H/\Rep z.K M' H d v:=by
 cases r with
 |dat d'=>cases e;exact⟨M,s,au.refl _ _,h⟩
 |var i=>cases e
 |new l=>
  cases e
  obtain⟨a,xs,rfl,hm,hA,h0,ha,rr⟩:=h
  have hM:∀m∈(M.filter λm=>decide (m≠a)),m∈M:=λm hm=>(aaE.mp hm).1
  have na:a∉(M.filter λm=>decide (m≠a)):=λhm=>by
   have:=(aaE.mp hm).2
   simp at this
  exact⟨_,s.drop h0 hA,au.less hM,.lst ⟨na,ha⟩ (rr.stay (au.less hM))⟩
section
variable{X:Cx}{z:Z}{g:G}{qn y x:Str}{ls:List Lt}{ds:List D}{ic:Nat}{scope:Scope}{N':List Str}{dI:Expr}{py px pos:Pos}
noncomputable def pG(X:Cx)(z:Z)(g:G)(qn:Str)(N':List Str)(iv:Nat)(scope:Scope)(dI:Expr)(l:Lt)(d:D):Prop:=
 ∀(bk:Bk) (σ:Sg),Wg X σ bk->∀(gb:G) (σb:Sg) (Ab Mb:List Addr) (Hb:Hp) (v:V) (A1:List Addr) (Q:VK),S z gb σb Ab Mb Hb->σb[iv]?=some (some v)->Slots z.K Mb Hb g σ A1->jq X qn Mb Hb l v->
  (∀v' H' aB M',S z gb σb aB M' H'->au Mb Hb M' H'->Rep z.K M' H' d v'->Q v' H')->Kh (X.blk N' scope bk) dI σb Hb Q
theorem RL{l:Lt}{r':R}{d:D}{v fx qual:Str}{fp vp cp:Pos}{st:Stmt}{f:Addr}{fd:FuncData}(B:aX X.env.scope l.scope)(L:dZ l.params l.scope)(Ff:Jd X.K fx qual st f fd)(hm:X.mg fx=some (.ref f))(jy:(fx==("__debug__" : Str))=false)
  (hg:∀bk:Bk,Gl (X.blk N' scope bk) fx) {iv:Nat} (hix:N'[iv]?=some v) (hv:∀bk:Bk,nI (X.blk N' scope bk).env.scope v) (hd:(v==("__debug__" : Str))=false) (bD:(v==("__classdict__" : Str))=false)
  (hcall:∀bk:Bk,xW (X.blk N' scope bk) X z g qn l r' f) (hr:asD r'=some d):pG X z g qn N' iv scope (.Call (.Name fx fp) [.Name v vp] [] cp) l d:=by
 intro bk σ hbk gb σb Ab Mb Hb v0 A1 Q s0 hσ sl la kQ
 refine⟨λσ' H' Q'=>∃As M A0,S z gb σ' As M H'/\σ'[iv]?=some (some v0)/\Slots z.K M H' g σ A0/\jq X qn M H' l v0/\∀v' H2 aB M',S z gb σ' aB M' H2->au M H' M' H2->Rep z.K M' H2 d v'->Q' v' H2,?_,Ab,Mb,A1,s0,hσ,sl,la,kQ⟩
 intro ah s1 σ' H' Q' I ⟨As,M,A0,S1,hv0,Xh,la0,kQ0⟩
 refine abd (fE I (hg bk) hm ?_ jy)
 refine abS (h₀:=X.base) I.ok.mod.Dl Ff.kp (aaN ((bG (dQ (X:=X.blk N' scope bk) hix (hv bk) hd bD) gJ rfl) cp ah s1 σ' H' (λvs H1=>vs=[v0]/\H1=H') I ⟨v0,hv0,rfl,rfl⟩) (λus s2 q1=>?_) λ_ _ z=>z) rfl rfl
 obtain⟨vs,H1,I1,rv,rfl,rfl⟩:=q1
 obtain⟨p,c',g6,cl,rfl,np1,nc1,hp1,hc1,BP,K8⟩:=la0
 obtain⟨pins0,I0,f0⟩:=hbk
 have C0:lI X.N σ l.scope cl H1 s2.heap:=(zI I0 B L.nl BP K8).un' I1.base λx a e hb=>(f0 a hb).2.2.2.2.1 x a (BP x a e).1 rfl
 refine⟨I1.nh,hcall bk I1 S1 hp1 hc1 C0 Xh rv λu v H' s' aB M' I' r1 a b d'=>?_⟩
 obtain⟨M2,s3,gF,R3⟩:=xZ a d' hr
 exact⟨v,H',I',r1,kQ0 v H' aB M2 s3 (b.trans gF) R3⟩
inductive dX(P:Lt->D->Prop):List Lt->List D->Prop
 |nil:dX P [] []
 |cons {l:Lt}{ls:List Lt}{d:D}{ds:List D}:P l d->dX P ls ds->dX P (l::ls) (d::ds)
theorem dX.get(h:dX P ls ds):∀{i:Nat}{l:Lt},ls[i]?=some l->∃d,ds[i]?=some d/\P l d:=by
 induction h with
 |nil=>intro i l e;cases e
 |cons a _ ih=>intro i l e;cases i with
  |zero=>cases (show some _=some l from e);exact⟨_,rfl,a⟩
  |succ i=>exact ih (i:=i) e
theorem dX.length(h:dX P ls ds):ls.length=ds.length:=by
 induction h with
 |nil=>rfl
 |cons _ _ ih=>exact congrArg (· + 1) ih
theorem x6(hj:j<k)(hN:Names X.N N' scope k)(B:aX X.env.scope scope)(hc:X.calm=true)(hi:X.N[ic]?=some y)(hv:nI X.env.scope y)(hd:(y==("__debug__" : Str))=false)(bD:(y==("__classdict__" : Str))=false)
  (hx:∀b:Bk,Fe (X.blk N' scope b) x (X.N.length+j)) (Ob:g.length=X.N.length) (hls:ls.length<1000) (he:dX (pG X z g qn N' (X.N.length+j) scope dI) ls ds) :
  ∃t,PE X (.ListComp dI [⟨.Name x px,.Name y py,[],0⟩] scope pos) t/\∀σ H M0 H0 Q,LL X z g qn ic M0 H0 ls σ H->Kn z g σ M0 H0 (.new ds) Q->t σ H Q:=by
 refine⟨_,zc (k:=k) (wi:=NP X.K (Vt ic)) B hc hN (sF (dQ hi hv hd bD)) (λb=>⟨sE (hx b).nd (hx b).ix (hx b).lc (hx b).fn,uN,xD⟩) (λ_=>rfl),λσ H M0 H0 Q h kq=>?_⟩
 obtain⟨As,M,a,vs,s,st,e1,hm,hA,h0,ha,la⟩:=h
 have hM:∀m∈(M.filter λm=>decide (m≠a)),m∈M:=λm hm=>(aaE.mp hm).1
 have na:a∉(M.filter λm=>decide (m≠a)):=λhm=>by
  have:=(aaE.mp hm).2
  simp at this
 have s1:=s.drop h0 hA
 have cO:=st.trans (au.less (H:=H) hM)
 have la1:=la.stay (au.less (H:=H) hM)
 generalize (M.filter λm=>decide (m≠a))=M1 at na s1 cO la1
 refine⟨.ref a,e1,a,rfl,⟨vs,cK.of ha⟩,λD hD=>?_⟩
 have hl:g.length=σ.length:=s.sl.length
 have hlN:σ.length=X.N.length:=hl.symm.trans Ob
 have h0D:z.H0 D=none:=s1.cQ hD
 have nA:D∉As:=λh=>s1.fresh hD (s1.sub D h)
 have sb:=(s1.aZ (xs:=[]) hD).extend (k:=k) (l:=[]) aah nA h0D aE .nil
 refine⟨λi m σ' H'=>i+m=ls.length/\∃Ab Mb w,S z (g++(List.replicate k .no++[.own (ds.take i)])) σ' Ab Mb H'/\au M1 H Mb H'/\w.length=k/\σ'=σ++(w++[some (.ref D)]),⟨ls.length,Nat.zero_add _,_,_,_,sb,au.aZ hD,aaB,rfl⟩,?_⟩
 rintro i m σ' H' ⟨him,Ab,Mb,w,s2,aU,hw,rfl⟩
 have ha2:=aU _ _ ha na
 have la2:=la1.stay aU
 have rC:∀w:List (Option V),w.length=k->(σ++(w++[some (V.ref D)]))[g.length+k]?=some (some (V.ref D)):=λw hw=>by rw[hl,aam (aby _ _),aaL,aam (by lia),hw,acv];rfl
 have zJ:∀l,(g++(List.replicate k Slot.no++[Slot.own l]))[g.length+k]?=some (.own l):=λl=>by rw[aam (aby _ _),aaL,aam (by rw[aaB];exact aal _),aaB,acv];rfl
 cases e:ls[i]? with
 |none=>
  have hi':i=ls.length:=by
   have:=abF.mp e
   lia
  refine .inl ⟨⟨vs,cK.of ha2.1,by rw[<- la.length,hi'];exact aal _⟩,?_⟩
  rw[List.take_of_length_le (by rw[<- he.length,hi'];exact aal _)]at s2
  obtain⟨b,xs,f1,f2,f3,f4⟩:=s2.sl.at (zJ ds)
  rw[rC w hw]at f1
  injection f1 with f1;injection f1 with f1;injection f1 with f1
  subst f1
  obtain⟨A1,s3,m3,n3⟩:=s2.shrink (λp hp=>(aai.mp (s.jT p hp).1).1) (i:=g.length+k) (by lia) (zJ ds) (rC w hw)
  rw[List.take_append_of_le_length (by lia),List.take_of_length_le (by lia)]at s3
  exact kq _ H' A1 Mb s3 (cO.trans aU) ⟨D,xs,rfl,m3,n3,h0D,f3,f4⟩
 |some l=>
  obtain⟨v,ev,lv⟩:=la2.get e
  obtain⟨d,ed,hE⟩:=he.get e
  refine .inr ⟨⟨vs,v,cK.of ha2.1,ev⟩,λσ' H'=>∃Ab Mb w,S z (g++(List.replicate k .no++[.own (ds.take (i+1))])) σ' Ab Mb H'/\au M1 H Mb H'/\w.length=k/\σ'=σ++(w++[some (.ref D)]),λYB YC hN=>⟨m - 1,by have:=(aai.mp e).1;lia,by have:=(aai.mp e).1;lia,hN⟩,λx' H2 hx' bk hbk=>?_⟩
  obtain⟨rfl,hy⟩:=hx'
  have:=hy vs (cK.of ha2.1)
  rw[ev]at this
  cases this
  have Va:(w.set j (some v)).length=k:=by rw[aa2];exact hw
  have es:(σ++(w++[some (V.ref D)])).set (X.N.length+j) (some v)=σ++(w.set j (some v)++[some (V.ref D)]):=by
   rw[<- hlN,abk _ _ (aby _ _),aaL,List.set_append_left _ _ (by lia)]
  have s3:S z (g++(List.replicate k .no++[.own (ds.take i)])) (σ++(w.set j (some v)++[some (V.ref D)])) Ab Mb H2:=by
   rw[<- es]
   exact s2.rM (by rw[<- Ob,aam (aby _ _),aaL,aat (by rw[aaB];exact hj),ab6,aav hj])
  obtain⟨σ1,σ2,A1,A2,c1,c2,c3,c4⟩:=s3.sl.split
  obtain⟨rfl,_⟩:=List.append_inj c1 (hl.symm.trans c3.length)
  unfold yQ NX
  dsimp only
  rw[aav rfl]
  show Kh _ dI ((σ++(w++[some (V.ref D)])).set (X.N.length+j) (some v)) H2 _
  rw[es]
  refine hE bk σ hbk _ _ Ab Mb H2 v A1 _ s3 (by rw[<- hlN,aam (aby _ _),aaL,aat (by lia),aax (by lia)]) c3 lv λv' H3 jU M3 s4 rB R4=>?_
  obtain⟨b,xs,f1,f2,f3,f4⟩:=s4.sl.at (zJ (ds.take i))
  rw[rC _ Va]at f1
  injection f1 with f1;injection f1 with f1;injection f1 with f1
  subst f1
  have ht:ds.take (i+1)=ds.take i++[d]:=by rw[List.take_add_one,ed];rfl
  obtain⟨s5,uI⟩:=s4.write (l':=ds.take (i+1)) (zJ _) (rC _ Va) (by rw[ht];exact f4.append (.cons R4 .nil))
  have eg:(g++(List.replicate k Slot.no++[Slot.own (ds.take i)])).set (g.length+k) (.own (ds.take (i+1)))=g++(List.replicate k Slot.no++[Slot.own (ds.take (i+1))]):=by
   rw[abk _ _ (aby _ _),aaL,abk _ _ (by rw[aaB];exact aal _),aaB,acv];rfl
  rw[eg]at s5
  refine⟨xs,f3,?_,jU,M3,_,s5,(aU.trans rB).trans uI,Va,rfl⟩
  rw[<- f4.length,aaY,abn]
  have:=Nat.min_le_right i ds.length
  rw[<- he.length]at this ⊢
  lia
theorem vq(hj:j<k)(hN:Names X.N N' scope k)(B:aX X.env.scope scope)(hc:X.calm=true)(hi:X.N[ic]?=some y)(hv:nI X.env.scope y)(hd:(y==("__debug__" : Str))=false)(bD:(y==("__classdict__" : Str))=false)
  (hx:∀b:Bk,Fe (X.blk N' scope b) x (X.N.length+j)) (hls:ls.length<1000) (he:dX (pG X z g qn N' (X.N.length+j) scope dI) ls ds) :
  ∃t,PE X (.ListComp dI [⟨.Name x px,.Name y py,[],0⟩] scope pos) t/\∀σ H M0 H0 Q,LL X z g qn ic M0 H0 ls σ H->Kn z g σ M0 H0 (.new ds) Q->t σ H Q:=by
 by_cases Ob:g.length=X.N.length
 .
  exact x6 hj hN B hc hi hv hd bD hx Ob hls he
 .
  refine⟨λσ H Q=>σ.length≠X.N.length,λah s σ H Q I h=>absurd I.len h,λσ H M0 H0 Q h _ e=>?_⟩
  obtain⟨As,M,a,vs,s,_⟩:=h
  exact Ob (s.sl.length.trans e)
end
inductive RM(X:Cx):List Stmt->List TS->Prop
 |nil:RM X [] []
 |cons {s:Stmt}{ss:List Stmt}{t:TS}{ts:List TS}:PS X s t->RM X ss ts->RM X (s::ss) (t::ts)
noncomputable def Lf:List TS->TS->TS
 | [],u=>u
 |t::ts,u=>Vy t (Lf ts u)
theorem RM.pss{X:Cx}{ss rest:List Stmt}{ts:List TS}{u:TS}(h:RM X ss ts)(hu:su X rest u):su X (ss++rest) (Lf ts u):=by
 induction h with
 |nil=>exact hu
 |cons a _ ih=>exact eH a ih
noncomputable def pH(X:Cx)(z:Z)(ss:List Stmt)(g:G)(f:Fl)(g':G):Prop:=
 ∃ts,RM X ss ts/\∀(u:TS) σ As M H (E:Ends),S z g σ As M H->mG z M H { E with nx:=u E} g' f->Lf ts u E σ H
theorem pH.lift(h:pH X.mj z ss g f g'):pH X z ss g f g':=by
 obtain⟨ts,q,k⟩:=h
 refine⟨ts,?_,k⟩
 clear k
 induction q with
 |nil=>exact .nil
 |cons a _ ih=>exact .cons (λah s σ H D I hw=>aaN (a ah s σ H D (I.wish _) hw) (λ_ _ q=>q.cP) λ_ _ z=>False.elim z) ih
theorem pH.bk{X:Cx}{z:Z}{ss rest:List Stmt}{g g1 g':G}{f:Fl}(h:pH X z ss g .nx g1)(h2:dW X z rest g1 f g'):dW X z (ss++rest) g f g':=by
 obtain⟨t2,q2,k2⟩:=h2
 obtain⟨t,q,k⟩:=h
 exact⟨_,q.pss q2,λσ As M H E s kE=>k t2 σ As M H E s λσ' aB M' H' s' st=>k2 σ' aB M' H' E s' (kE.trans st)⟩
theorem pH.end{X:Cx}{z:Z}{ss rest:List Stmt}{g g':G}{f:Fl}(h:pH X z ss g f g')(hn:f≠.nx):dW X z (ss++rest) g f g':=by
 obtain⟨t,q,k⟩:=h
 refine⟨_,q.pss bu,λσ As M H E s kE=>k _ σ As M H E s ?_⟩
 cases f with
 |nx=>exact absurd rfl hn
 |rt r=>exact kE
 |bk=>exact kE
 |ct=>exact kE
theorem pH.ra{X:Cx}{z:Z}{ss rest:List Stmt}{g g1 g':G}{C:Addr}(h:pH X z ss g .nx g1)(h2:Ku X z rest g1 C g'):Ku X z (ss++rest) g C g':=by
 obtain⟨t2,q2,k2⟩:=h2
 obtain⟨t,q,k⟩:=h
 exact⟨_,q.pss q2,λσ As M H E s kE=>k t2 σ As M H E s λσ' aB M' H' s' st=>k2 σ' aB M' H' E s' (kE.trans st)⟩
noncomputable def LsOk(X:Cx)(z:Z)(qn:Str)(ic:Nat)(ls:List Lt)(st:Stmt)(g:G)(f:Fl)(g':G):Prop:=
 ∃t,PS X st t/\∀σ H M0 H0 (E:Ends),LL X z g qn ic M0 H0 ls σ H->mG z M0 H0 E g' f->t E σ H
inductive x8(y:Str):List Stmt->List Lt->Prop
 |nil:x8 y [] []
 |cons {l:Lt}{ls:List Lt}{ss:List Stmt}{pn aQ aG pos:Pos}:(aQ.endLine==aG.line)=true->x8 y ss ls->x8 y (.Expr (.Call (.Attribute (.Name y pn) "append" aQ) [l.ex] [] aG) pos::ss) (l::ls)
section
variable{X:Cx}{z:Z}{g g' g2:G}{qn y:Str}{q c:Addr}{l:Lt}{ls:List Lt}{ic:Nat}{py lp pos kN:Pos}{f:Fl}{st:Stmt}
theorem yc(hK:z.K=X.K)(mk:pF X qn q c)(hi:X.N[ic]?=some y)(hv:nI X.env.scope y)(hd:(y==("__debug__" : Str))=false)(bD:(y==("__classdict__" : Str))=false):∀{ms ls:List Lt},x8 y ss ms->(∀m∈ms,aX X.env.scope m.scope/\dZ m.params m.scope)->ls.length+ms.length<1000->
  LsOk X z qn ic (ls++ms) st g f g'->∃ts,RM X (ss++[st]) ts/\∀(u:TS) σ H M0 H0 (E:Ends),LL X z g qn ic M0 H0 ls σ H->mG z M0 H0 { E with nx:=u E} g' f->Lf ts u E σ H:=by
 induction ss with
 |nil=>
  intro ms ls ha _ _ ⟨t,q,k⟩
  cases ha
  rw[aaV]at k
  exact⟨[t],.cons q .nil,λu σ H M0 H0 E h kE=>k σ H M0 H0 { E with nx:=u E} h kE⟩
 |cons s ss ih=>
  intro ms ls ha hm hl hs
  cases ha with
  |@cons m ms _ pn aQ aG pos' e ha=>
   obtain⟨B,L⟩:=hm m aah
   obtain⟨t1,q1,k1⟩:=xY (z:=z) (g:=g) (ls:=ls) (pos:=pos') (pn:=pn) hK mk B L hi hv hd bD (by lia) e
   obtain⟨t2,q2,k2⟩:=ih (ls:=ls++[m]) ha (λm h=>hm m (aaf _ h)) (by simp at hl ⊢;lia) (by rw[ack];exact hs)
   exact⟨t1::t2,.cons q1 q2,λu σ H M0 H0 E h kE=>k1 σ H M0 H0 _ h λH' h'=>k2 u σ H' M0 H0 E h' kE⟩
theorem mO(hK:z.K=X.K)(mk:pF X qn q c)(hN:X.N.Nodup)(hi:X.N[ic]?=some y)(hx:Loc X.env.scope y)(hf:X.fn y=true\/X.env.scope.names.lookup y=some .local)(hv:nI X.env.scope y)(hd:(y==("__debug__" : Str))=false)(bD:(y==("__classdict__" : Str))=false)(hg:g[ic]?=some .no)
  {ss:List Stmt} (ha:x8 y ss ls) (hm:∀m∈l::ls,aX X.env.scope m.scope/\dZ m.params m.scope) (hl:ls.length<900) (hs:LsOk X z qn ic (l::ls) st g f g'):pH X z (.Assign [.Name y py] (.List [l.ex] lp) pos::(ss++[st])) g f g':=by
 obtain⟨B,L⟩:=hm l aah
 obtain⟨t1,q1,k1⟩:=BW (z:=z) (g:=g) (py:=py) (lp:=lp) (pos:=pos) hK mk B L hN hi hx hf hg
 obtain⟨t2,q2,k2⟩:=yc (ls:=[l]) hK mk hi hv hd bD ha (λm h=>hm m (aaf _ h)) (by simp;lia) hs
 exact⟨t1::t2,.cons q1 q2,λu σ As M H E s kE=>k1 σ As M H _ s λσ' H' h'=>k2 u σ' H' M H E h' kE⟩
variable{Lg fV:Expr}{op:CmpOp}{ds:List D}{d2:D}{r2:R}{b:Bool}{aG:Pos}
theorem GJ(h1:∃t,PE X Lg t/\∀σ H M0 H0 Q,LL X z g qn ic M0 H0 ls σ H->Kn z g σ M0 H0 (.new ds) Q->t σ H Q)(h2:aA X z fV g r2 g2)(p2:pk r2 g2=some d2)(ho:nJ X z (compareOp op) (.lst ds) d2 (.dat (.bl b)))(hm:behindInMarks op fV=false)
  (hb:dW X z (if b then body else []) g2 f g'):LsOk X z qn ic ls (.If (.Compare Lg [op] [fV] aG) body [] pos) g f g':=by
 obtain⟨t1,q1,k1⟩:=h1
 obtain⟨t2,q2,k2⟩:=h2
 obtain⟨rr,o,ko⟩:=ho
 obtain⟨t3,q3,k3⟩:=hb
 have go:∀σ H M0 H0 (Q:Bool->Hp->Prop),LL X z g qn ic M0 H0 ls σ H->(∀H' aB M',S z g2 σ aB M' H'->au M0 H0 M' H'->Q b H')->t1 σ H λv1 H1=>t2 σ H1 λv2 H2=>rr v1 v2 H2 λv H3=>∃c,v=.bl c/\Q c H3:=λσ H M0 H0 Q h kQ=>
  k1 σ H M0 H0 _ h λv1 H1 aM M1 s1 cO R1=>by
   obtain⟨M1',s1',RN,WY⟩:=xZ s1 R1 rfl
   exact k2 σ aM M1' H1 _ s1' λv2 H2 bw M2 s2 aU R2=>ko g2 σ bw M2 H2 v1 v2 _ s2 (.of (WY.stay aU)) (s2.pk (au.refl _ _) R2 p2) λv H' aB M' s' st' R'=>⟨b,fG R',kQ H' aB M' s' (((cO.trans RN).trans aU).trans st')⟩
 cases b with
 |true=>exact⟨_,n8 (sH o q1 q2 hm) q3 bu,λσ H M0 H0 E h kE=>go σ H M0 H0 _ h λH' aB M' s' st'=>lg (k3 σ aB M' H' E s' (kE.trans st'))⟩
 |false=>exact⟨_,n8 (sH o q1 q2 hm) bu q3,λσ H M0 H0 E h kE=>go σ H M0 H0 _ h λH' aB M' s' st'=>qA (k3 σ aB M' H' E s' (kE.trans st'))⟩
theorem BX(h1:∃t,PE X Lg t/\∀σ H M0 H0 Q,LL X z g qn ic M0 H0 ls σ H->Kn z g σ M0 H0 (.new ds) Q->t σ H Q)(h2:aA X z fV g r2 g2)(p2:pk r2 g2=some d2)(ho:nJ X z (compareOp op) (.lst ds) d2 (.dat (.bl b)))(hm:behindInMarks op fV=false) :
  LsOk X z qn ic ls (.Return (some (.Compare Lg [op] [fV] aG)) pos) g (.rt (.dat (.bl b))) g2:=by
 obtain⟨t1,q1,k1⟩:=h1
 obtain⟨t2,q2,k2⟩:=h2
 obtain⟨rr,o,ko⟩:=ho
 refine⟨_,wO (yT o q1 q2 hm),λσ H M0 H0 E h kE=>k1 σ H M0 H0 _ h λv1 H1 aM M1 s1 cO R1=>?_⟩
 obtain⟨M1',s1',RN,WY⟩:=xZ s1 R1 rfl
 exact k2 σ aM M1' H1 _ s1' λv2 H2 bw M2 s2 aU R2=>ko g2 σ bw M2 H2 v1 v2 _ s2 (.of (WY.stay aU)) (s2.pk (au.refl _ _) R2 p2) λv H' aB M' s' st' R'=>kE v σ aB M' H' s' (((cO.trans RN).trans aU).trans st') R'
end
end Ev
namespace L2
section
variable{prog:Program}{w:World}{A:Around}{R:Result->Shared->Prop}{s:Shared}
end
section
variable{X:Cx}{t1 i1 tg iter dI:Expr}{f1 ifs:List Expr}{scope:Scope}{pos:Pos}
end
end L2
namespace Ev
open L2
section
variable{X:Cx}{z:Z}{tg iter dI:Expr}{ifs:List Expr}{T:Tg}{items:List D}{g2 g2' g3:G}{last:Nat}
end
section
variable{X:Cx}{z:Z}{t1 i1 tg iter dI:Expr}{f1 ifs:List Expr}{scope:Scope}{pos:Pos}{N':List Str}{k:Nat}{T1 T:Tg}{items acc:List D}{g g1 gE:G}
end
inductive Lh(z:Z)(As M:List Addr)(H:Hp):List Addr->List (List D)->Prop
 |nil:Lh z As M H [] []
 |cons {p:Addr}{as:List Addr}{xs:List V}{l:List D}{ll:List (List D)}:p∈M->p∉As->z.H0 p=none->H p=some (.lst xs)->aI z.K M H l xs->Lh z As M H as ll->Lh z As M H (p::as) (l::ll)
section
variable{z:Z}{As M:List Addr}{H:Hp}{as:List Addr}{ll:List (List D)}
end
def Rows(z:Z)(g:G)(iy:Nat)(M0:List Addr)(H0:Hp)(ll:List (List D))(σ:Sg)(H:Hp):Prop:=
 ∃As M a as,S z g σ As M H/\au M0 H0 M H/\σ[iy]?=some (some (.ref a))/\a∈M/\a∉As/\z.H0 a=none/\H a=some (.lst (as.map .ref))/\a∉as/\as.Nodup/\Lh z As M H as ll
section
variable{X:Cx}{z:Z}{g:G}{y x w:Str}{iy ix iw:Nat}{py px pw sp aQ aG ep:Pos}
end
section
variable{X:Cx}{z:Z}{g:G}{y a b tn:Str}{iy ia ib it:Nat}{ao:List D}{llE:List (List D)}{pa pb jR y1 y2 a1 a2 b1 b2 sp1 sp2 ap1 ap2 cp1 cp2 ep1 ep2 fpos rp yr tp:Pos}{tk:Nat}
end
section
variable{z:Z}{g:G}{σ:Sg}{As M:List Addr}{H:Hp}
end
section
variable{X:Cx}{z:Z}{g:G}{y x mn:Str}{iy im:Nat}{m:Nat}{scope:Scope}{N':List Str}{lp px rp mp rcp Ji ap py:Pos}
end
section
variable{X:Cx}{z:Z}{g:G}{y x mn a b tn:Str}{iy im ia ib it:Nat}{m:Nat}{ao:List D}{llE:List (List D)}{scope:Scope}{N':List Str}{lp px rp mp rcp Ji ap py pa pb jR y1 y2 a1 a2 b1 b2 sp1 sp2 ap1 ap2 cp1 cp2 ep1 ep2 fpos rpos yr tp:Pos}{tk:Nat}
end
inductive Bl where
 |len |list |tuple |max |min |str |all |sorted |sum
 deriving DecidableEq
inductive Mt where
 |count |index
 deriving DecidableEq
set_option genInjectivity false in
inductive Ex where
 |val (d:D) |slot (i:Nat)
 |bin (op:Operator) (a b:Ex) |cmp (op:CmpOp) (a b:Ex) |chain (a:Ex) (ops:List CmpOp) (l:List Ex)
 |neg (a:Ex) |not (a:Ex) |and (l:List Ex) |or (l:List Ex) |ite (c a b:Ex)
 |tup (l:List Ex) |lst (l:List Ex)
 |ix (a b:Ex) |slice (a:Ex) (lo hi:Option Ex)
 |call (f:Nat) (l:List Ex) |blt (b:Bl) (l:List Ex) |qH (a:Ex) (n:String) |tN (a:Ex) (ns:List String)
 |comp (n k:Nat) (T:Tg) (it:Ex) (c:Option Ex) (e:Ex)
 |dN (a:Ex) |jd (a b:Ex) |d7 (a:Ex)
 |qI (a b c:Ex) |zip (a b:Ex) |meth (m:Mt) (o e:Ex)
 |qJ (l:List (Bool×Ex))
 |rev (a:Ex) |emp |stk |peek (e:Ex)
 |ig (f ir:Nat) (ca:List Addr) (e:Ex) |tQ (a:Ex) (l:List (Addr×Bool)) |refs (f ir:Nat) (ca:List Addr) (es:List Ex)
 |append (i:Nat) (e:Ex) |extend (i:Nat) (e:Ex) |jr (i:Nat) (e:Ex)
set_option genInjectivity false in
inductive Sm where
 |ret (e:Ex) |expr (e:Ex) |set (i:Nat) (e:Ex) |setC (i:Nat) (e:Ex) |tgt (T:Tg) (e:Ex) |item (i:Nat) (j e:Ex)
 |par (i j:Nat) (a b:Ex) |items2 (i:Nat) (x:Ex) (j:Nat) (y:Ex) (e:Ex)
 |ite (c:Ex) (a b:List Sm) |loop (T:Tg) (it:Ex) (b:List Sm) |while (c:Ex) (b:List Sm) |raise (ci:Nat) (e:Ex) |calls (ic:Nat) (x:Ex) (op:CmpOp) (rhs:Ex) (ret:Bool) (b:List Sm) |stuck
structure Fx where
 np:Nat
 n:Nat
 body:List Sm
noncomputable def Tg.pI:Tg->Bool
 |.tp _=>true
 |.nm _=>false
noncomputable def Li(i j:Int):Bool:=(decide (-(2 ^ 64)<i)&&decide (i<2 ^ 64))||(decide (-(2 ^ 64)<j)&&decide (j<2 ^ 64))
noncomputable def lim:Nat:=16777216
noncomputable def lJ{α:Type}(f:Int->Int->Option α)(a b:D):Option α:=match a with
 |.int i=>(match b with |.int j=>f i j |_=>none)
 |_=>none
noncomputable def RP(a b:D):Option R:=match a with
 |.int i=>(match b with |.int j=>some (.dat (.int (i+j))) |_=>none)
 |.lst l=>(match b with |.lst m=>if l.length+m.length<=lim then some (.new (l++m))else none |_=>none)
 |.tup l=>(match b with |.tup m=>if l.length+m.length<=lim then some (.dat (.tup (l++m)))else none |_=>none)
 |_=>none
noncomputable def Lj(a:D)(k:Int):Option R:=match a with
 |.int i=>if Li i k=true then some (.dat (.int (i * k)))else none
 |.lst l=>if -(2 ^ 63)<=k/\k<2 ^ 63/\l.length * k.toNat<=lim then some (.new (List.replicate k.toNat l).flatten)else none
 |_=>none
noncomputable def vt(op:Operator)(a b:D):Option R:=match op with
 |.Add=>RP a b
 |.Sub=>lJ (λi j=>some (.dat (.int (i - j)))) a b
 |.Mult=>(match b with |.int k=>Lj a k |_=>none)
 |.FloorDiv=>lJ (λi j=>if 0<j/\j<1073741824 then some (.dat (.int (i / j)))else none) a b
 |.Mod=>lJ (λi j=>if 0<j then some (.dat (.int (i % j)))else none) a b
 |.Pow=>lJ (λi j=>if 0<=j/\j<=1000/\i.natAbs<2 ^ 64 then some (.dat (.int (i ^ j.toNat)))else none) a b
 |_=>none
noncomputable def eV(d1 d2:D):Bool:=fO d1&&fO d2&&decide (dep d1<=190)
noncomputable def vA(d1:D)(l:List D):Bool:=fO d1&&fD l&&decide (deps l<=190)
noncomputable def ltF(a b:D):Option Bool:=match a with
 |.int i=>(match b with |.int j=>some (decide (i<j)) |_=>none)
 |.tup l=>(match b with |.tup m=>(match bZ l with |some ns=>(match bZ m with |some ms=>some (HT.lexLt ns ms) |none=>none) |none=>none) |_=>none)
 |_=>none
noncomputable def d8(op:CmpOp)(d1 d2:D):Option Bool:=match op with
 |.Eq=>if eV d1 d2=true then some (bL d1 d2)else none
 |.NotEq=>if eV d1 d2=true then some (!bL d1 d2)else none
 |.Lt=>ltF d1 d2
 |.LtE=>lJ (λi j=>some (decide (i<=j))) d1 d2
 |.Gt=>lJ (λi j=>some (decide (i > j))) d1 d2
 |.GtE=>lJ (λi j=>some (decide (i ≥ j))) d1 d2
 |.In=>(match cR d2 with |some l=>if vA d1 l=true then some (l.any λd=>bL d d1)else none |none=>none)
 |_=>none
noncomputable def Du:D->D->Option D
 |.lst l,.int i=>g7 l i
 |.fix l,.int i=>g7 l i
 |.tup l,.int i=>g7 l i
 |_,_=>none
noncomputable def RQ(b:Bl)(d:D):Option R:=match b with
 |.len=>(match Wu d with |some n=>some (.dat (.int n)) |none=>none)
 |.list=>(match cR d with |some l=>some (.new l) |none=>none)
 |.tuple=>(match cR d with |some l=>some (.dat (.tup l)) |none=>none)
 |.all=>(match d with |.lst l=>(match uR l with |some bs=>some (.dat (.bl (bs.all id))) |none=>none) |_=>none)
 |.sorted=>(match cR d with |some l=>(match bZ l with |some ns=>if ns.length<64 then some (.new ((cA ns).map .int))else none |none=>match pD l with |some dP=>if dP.length<64 then some (.new ((dg iI dP).map λns=>.tup (ns.map .int)))else none |none=>none) |none=>none)
 |_=>none
noncomputable def bl2(b:Bl)(d e:D):Option R:=match b with
 |.max=>lJ (λi j=>some (.dat (.int (if j > i then j else i)))) d e
 |.min=>lJ (λi j=>some (.dat (.int (if j<i then j else i)))) d e
 |_=>none
noncomputable def pJ(b:Bl)(ds:List D):Option R:=match ds with
 | [d]=>RQ b d
 | [d,e]=>bl2 b d e
 |_=>none
noncomputable def Xj:Mt->D->D->Option D
 |.count,_,_=>none
 |.index,d0,d1=>match cR d0 with |some l=>if vA d1 l=true then (match xN d1 l with |some j=>some (.int j) |none=>none)else none |none=>none
noncomputable def eW(t n:String):Bool:=t==n||(t == "bool" && n == "int")
structure Rn where
 e:List Nat->Nat->Ex->G->Option (R×G)
 t:List Nat->Nat->Ex->G->Option (Bool×G)
 b:List Nat->Nat->List Sm->G->Option (Fl×G)
 x:List Nat->Nat->Ex->G->Option (Nat×G)
 xt:List Nat->Nat->Ex->G->Option (Nat×G)
 xb:List Nat->Nat->List Sm->G->Option (Nat×G)
noncomputable def toD(bor:List Nat):R->G->Option (D×G)
 |.dat d,g=>some (d,g)
 |.new l,g=>some (.lst l,g)
 |.var i,g=>if i∈bor then none else match g[i]? with |some (.own l)=>some (.lst l,g.set i (.dat (.lst l))) |_=>none
noncomputable def norm:R->R
 |.new l=>.dat (.lst l)
 |.dat d=>.dat d
 |.var i=>.var i
section
variable(rn:Rn)(bor:List Nat)(k:Nat)
noncomputable def dY(e:Ex)(g:G):Option (D×G):=match rn.e bor k e g with
 |some (r,g1)=>toD bor r g1
 |none=>none
noncomputable def mQ:List Ex->G->Option (List D×G)
 | [],g=>some ([],g)
 |e::es,g=>match dY rn bor k e g with
  |some (d,g1)=>match mQ es g1 with
   |some (ds,g2)=>some (d::ds,g2)
   |none=>none
  |none=>none
noncomputable def argsR:List Ex->G->Option (List R×G)
 | [],g=>some ([],g)
 |e::es,g=>match rn.e bor k e g with
  |some (r,g1)=>match argsR es g1 with
   |some (rs,g2)=>some (norm r::rs,g2)
   |none=>none
  |none=>none
noncomputable def Dw:D->List CmpOp->List Ex->G->Option (Bool×G)
 |d1,[op],[b],g=>match dY rn bor k b g with
  |some (d2,g1)=>match d8 op d1 d2 with |some c=>some (c,g1) |none=>none
  |none=>none
 |d1,op::op'::ops,b::b'::bs,g=>match dY rn bor k b g with
  |some (d2,g1)=>match d8 op d1 d2 with
   |some true=>Dw d2 (op'::ops) (b'::bs) g1
   |some false=>some (false,g1)
   |none=>none
  |none=>none
 |_,_,_,_=>none
noncomputable def GK:List Ex->G->Option (R×G)
 | [],_=>none
 | [a],g=>rn.e bor k a g
 |a::b::l,g=>match rn.e bor k a g with
  |some (.dat (.bl true),g1)=>GK (b::l) g1
  |some (.dat (.bl false),g1)=>some (.dat (.bl false),g1)
  |_=>none
noncomputable def Xk:List Ex->G->Option (R×G)
 | [],_=>none
 | [a],g=>rn.e bor k a g
 |a::b::l,g=>match rn.e bor k a g with
  |some (.dat (.bl false),g1)=>Xk (b::l) g1
  |some (.dat (.bl true),g1)=>some (.dat (.bl true),g1)
  |_=>none
noncomputable def vB:List Ex->G->Option (Bool×G)
 | [],_=>none
 | [a],g=>rn.t bor k a g
 |a::b::l,g=>match rn.t bor k a g with
  |some (true,g1)=>vB (b::l) g1
  |some (false,g1)=>some (false,g1)
  |none=>none
noncomputable def GL:List Ex->G->Option (Bool×G)
 | [],_=>none
 | [a],g=>rn.t bor k a g
 |a::b::l,g=>match rn.t bor k a g with
  |some (false,g1)=>GL (b::l) g1
  |some (true,g1)=>some (true,g1)
  |none=>none
noncomputable def vC:Option Ex->G->Option (Option Int×G)
 |none,g=>some (none,g)
 |some e,g=>match dY rn bor k e g with
  |some (.int i,g1)=>some (some i,g1)
  |_=>none
noncomputable def Lk(j:Int):Bool:=decide (-(2 ^ 62)<=j)&&decide (j<2 ^ 62)
noncomputable def vD(j:Int):Bool:=decide (-(2 ^ 30)<=j)&&decide (j<2 ^ 30)
noncomputable def gA(tp:Bool)(it:Ex)(g:G):Option (List D×G):=match it with
 |.dN a=>match dY rn bor k a g with
  |some (.int j,g1)=>if Lk j=true then some (cS 0 j.toNat,g1)else none
  |_=>none
 |.jd a b=>match dY rn bor k a g with
  |some (.int c,g1)=>match dY rn bor k b g1 with
   |some (.int j,g2)=>if Lk c=true/\Lk j=true then some (cS c (j - c).toNat,g2)else none
   |_=>none
  |_=>none
 |.qI a b c=>match dY rn bor k a g with
  |some (.int i,g1)=>match dY rn bor k b g1 with
   |some (.int j,g2)=>match dY rn bor k c g2 with
    |some (.int s,g3)=>if vD i=true/\vD j=true/\vD s=true/\0<s then some (qE i s (lF i j s),g3)else none
    |_=>none
   |_=>none
  |_=>none
 |.zip a b=>if tp=true then match mQ rn bor k [a,b] g with
  |some ([d1,d2],g1)=>match cR d1,cR d2 with |some l,some m=>if isTup d1=isTup d2 then some (tL l m,g1)else none |_,_=>none
  |_=>none
  else none
 |e=>match dY rn bor k e g with
  |some (.tup l,g1)=>some (l,g1)
  |some (.lst l,g1)=>some (l,g1)
  |some (.fix l,g1)=>some (l,g1)
  |_=>none
noncomputable def BZ:Option Ex->G->Option (Bool×G)
 |none,g=>some (true,g)
 |some c,g=>rn.t bor k c g
noncomputable def Ca(T:Tg)(last:Nat)(c:Option Ex)(e:Ex):List D->G->Option G
 | [],g=>some g
 |d::l,g=>match T.set d g with
  |none=>none
  |some g1=>match BZ rn bor k c g1 with
   |none=>none
   |some (false,g2)=>Ca T last c e l g2
   |some (true,g2)=>match dY rn bor k e g2 with
    |none=>none
    |some (x,g3)=>match g3[last]? with
     |some (.own acc)=>if acc.length<lim then Ca T last c e l (g3.set last (.own (acc++[x])))else none
     |_=>none
noncomputable def dh(n kk:Nat)(T:Tg)(it:Ex)(c:Option Ex)(e:Ex)(g:G):Option (List D×G):=match gA rn bor k T.pI it g with
 |none=>none
 |some (items,g1)=>if g1.length=n/\(T.ix.any λi=>decide (i∈bor))=false then match Ca rn bor k T (n+kk) c e items (gC kk g1)with
   |none=>none
   |some gE=>match gE[n+kk]? with
    |some (.own acc)=>some (acc,gE.take n)
    |_=>none
  else none
noncomputable def aK(fx:Fx)(k':Nat)(rs:List R)(g1:G):Option (R×G):=
 if rs.length=fx.np/\((vars 0 rs).map (·.2)).Nodup then match bQ rs g1 with
  |none=>none
  |some gs=>match rn.b ((vars 0 rs).map (·.1)) k' fx.body (cT fx.n gs)with
   |some (.rt r,gc)=>match back (vars 0 rs) gc g1 with
    |some gO=>match dz ((vars 0 rs).map (·.1)) gc r with |some r'=>some (r',gO) |none=>none
    |none=>none
   |some (.nx,gc)=>match back (vars 0 rs) gc g1 with
    |some gO=>some (.dat .non,gO)
    |none=>none
   |_=>none
 else none
noncomputable def yd:Str->List (Bool×Ex)->G->Option (Str×G)
 |out,[],g=>some (out,g)
 |out,(false,.val (.str y))::es,g=>if (out++y).length<=lim then yd (out++y) es g else none
 |out,(true,e)::es,g=>match dY rn bor k e g with
  |some (.int i,g1)=>if i.natAbs.log2<1920/\(out++(toString i:Str)).length<=lim then yd (out++(toString i:Str)) es g1 else none
  |_=>none
 |_,_,_=>none
noncomputable def GP(fns:List Fx)(f ir:Nat)(ca:List Addr)(e:Ex)(g:G):Option D:=match fns[f]?,k with
 |some fx,k'+2=>match rn.x [] k' e (g.map noOwn)with
  |some (ci,_)=>match ca[ci]? with
   |some C=>match rn.b [] k' (fx.body.drop 2) ((List.replicate fx.n .no).set ir (.dat (.mC C)))with
    |some (.rt r,g3)=>match dz [] g3 r with |some r'=>asD r' |none=>none
    |_=>none
   |none=>none
  |none=>none
 |_,_=>none
noncomputable def rO(fns:List Fx)(f ir:Nat)(ca:List Addr):List Ex->G->Option (List D)
 | [],_=>some []
 |e::es,g=>match GP rn k fns f ir ca e g with
  |some d=>match rO fns f ir ca es g with |some ds=>some (d::ds) |none=>none
  |none=>none
noncomputable def aN(fns:List Fx)(e:Ex)(g:G):Option (R×G):=match e with
 |.val d=>some (.dat d,g)
 |.slot i=>match g[i]? with |some (.dat d)=>some (.dat d,g) |some (.own _)=>some (.var i,g) |_=>none
 |.bin op a b=>match argsR rn bor k [a,b] g with
  |some ([r1,r2],g2)=>match pk r1 g2,pk r2 g2 with
   |some d1,some d2=>match vt op d1 d2 with |some r=>some (r,g2) |none=>none
   |_,_=>none
  |_=>none
 |.cmp op a b=>match argsR rn bor k [a,b] g with
  |some ([r1,r2],g2)=>match pk r1 g2,pk r2 g2 with
   |some d1,some d2=>match d8 op d1 d2 with |some c=>some (.dat (.bl c),g2) |none=>none
   |_,_=>none
  |_=>none
 |.chain a ops l=>match dY rn bor k a g with
  |some (d1,g1)=>match Dw rn bor k d1 ops l g1 with |some (c,g2)=>some (.dat (.bl c),g2) |none=>none
  |none=>none
 |.neg a=>match dY rn bor k a g with |some (.int i,g1)=>some (.dat (.int (-i)),g1) |_=>none
 |.not a=>match rn.e bor k a g with |some (.dat (.bl c),g1)=>some (.dat (.bl (!c)),g1) |_=>none
 |.and l=>GK rn bor k l g
 |.or l=>Xk rn bor k l g
 |.ite c a b=>match rn.t bor k c g with
  |some (true,g1)=>rn.e bor k a g1
  |some (false,g1)=>rn.e bor k b g1
  |none=>none
 |.tup l=>match mQ rn bor k l g with |some (ds,g1)=>if ds.length<=lim then some (.dat (.tup ds),g1)else none |none=>none
 |.lst l=>match mQ rn bor k l g with |some (ds,g1)=>if ds.length<=lim then some (.new ds,g1)else none |none=>none
 |.ix a b=>match argsR rn bor k [a,b] g with
  |some ([r1,r2],g2)=>match pk r1 g2,pk r2 g2 with
   |some d1,some d2=>match Du d1 d2 with |some d=>some (.dat d,g2) |none=>none
   |_,_=>none
  |_=>none
 |.slice a lo hi=>match rn.e bor k a g with
  |some (r,g1)=>match vC rn bor k lo g1 with
   |some (i,g2)=>match vC rn bor k hi g2 with
    |some (j,g3)=>match norm r with
     |.dat (.tup l)=>some (.dat (.tup (iG l i j)),g3)
     |.dat (.fix l)=>some (.new (iG l i j),g3)
     |r'=>match pk r' g3 with |some (.lst l)=>some (.new (iG l i j),g3) |_=>none
    |none=>none
   |none=>none
  |none=>none
 |.call f l=>match fns[f]?,k with
  |some fx,k'+1=>match argsR rn bor k l g with
   |some (rs,g1)=>aK rn fx k' rs g1
   |none=>none
  |_,_=>none
 |.blt b l=>match argsR rn bor k l g with
  |some (rs,g1)=>match uO rs g1 with
   |some ds=>match pJ b ds with |some r=>some (r,g1) |none=>none
   |none=>none
  |none=>none
 |.qH a n=>match rn.e bor k a g with
  |some (r,g1)=>match pk (norm r) g1 with |some d=>some (.dat (.bl (eW (j8 d) n)),g1) |none=>none
  |none=>none
 |.tN a ns=>match rn.e bor k a g with
  |some (r,g1)=>match pk (norm r) g1 with |some d=>some (.dat (.bl (ns.any (eW (j8 d)))),g1) |none=>none
  |none=>none
 |.comp n kk T it c e=>match dh rn bor k n kk T it c e g with |some (acc,g1)=>some (.new acc,g1) |none=>none
 |.rev a=>match rn.e bor k a g with
  |some (r,g1)=>match norm r with
   |.dat (.tup l)=>some (.dat (.tup l.reverse),g1)
   |r'=>match pk r' g1 with |some (.lst l)=>some (.new l.reverse,g1) |_=>none
  |none=>none
 |.emp=>some (.dat .emp,g)
 |.stk=>none
 |.peek e=>if bor.isEmpty=true then match rn.e [] k e (g.map gG)with |some (.dat d,_)=>if flat d=true then some (.dat d,g)else none |_=>none else none
 |.refs f ir ca es=>match rO rn k fns f ir ca es g with |some ds=>some (.new ds,g) |none=>none
 |.ig f ir ca e=>match fns[f]?,k with
  |some fx,k'+2=>match rn.x [] k' e (g.map noOwn)with
   |some (ci,_)=>match ca[ci]? with
    |some C=>match rn.b [] k' (fx.body.drop 2) ((List.replicate fx.n .no).set ir (.dat (.mC C)))with
     |some (.rt r,g3)=>match dz [] g3 r with |some r'=>some (r',g) |none=>none
     |_=>none
    |none=>none
   |none=>none
  |_,_=>none
 |.tQ a l=>match rn.e bor k a g with
  |some (r,g1)=>match pk (norm r) g1 with
   |some (.mC C)=>match l.lookup C with |some b=>some (.dat (.bl b),g1) |none=>none
   |some .non=>some (.dat (.bl false),g1)
   |_=>none
  |none=>none
 |.append i e=>match g[i]? with
  |some (.own _)=>match dY rn bor k e g with
   |some (d,g1)=>match g1[i]? with |some (.own l)=>if l.length<lim then some (.dat .non,g1.set i (.own (l++[d])))else none |_=>none
   |none=>none
  |_=>none
 |.extend i e=>match g[i]? with
  |some (.own _)=>match dY rn bor k e g with
   |some (.lst m,g1)=>match g1[i]? with |some (.own l)=>if l.length+m.length<=lim then some (.dat .non,g1.set i (.own (l++m)))else none |_=>none
   |_=>none
  |_=>none
 |.jr i e=>match g[i]? with
  |some (.own _)=>match dY rn bor k e g with
   |some (.int j,g1)=>match g1[i]? with
    |some (.own l)=>match qo l.length j with
     |some n=>match l[n]? with |some d=>if l.length<lim then some (.dat d,g1.set i (.own (l.eraseIdx n)))else none |none=>none
     |none=>none
    |_=>none
   |_=>none
  |_=>none
 |.qJ l=>match l with
  |_::_::_=>match yd rn bor k Str.empty l g with |some (r,g1)=>some (.dat (.str r),g1) |none=>none
  |_=>none
 |.dN _=>none
 |.jd _ _=>none
 |.qI _ _ _=>none
 |.zip _ _=>none
 |.meth m o e=>match rn.e bor k o g with
  |some (r0,g1)=>match pk (norm r0) g1 with
   |some d=>match cR d with
    |some _=>match rn.e bor k e g1 with
     |some (r1,g2)=>match pk (norm r0) g2,pk (norm r1) g2 with
      |some d0,some d1=>match Xj m d0 d1 with |some x=>some (.dat x,g2) |none=>none
      |_,_=>none
     |none=>none
    |none=>none
   |none=>none
  |none=>none
 |.d7 a=>match dY rn bor k a g with
  |some (.int j,g1)=>if Lk j=true/\j.toNat<=lim then some (.new (cS 0 j.toNat),g1)else none
  |_=>none
noncomputable def stepT(e:Ex)(g:G):Option (Bool×G):=match e with
 |.cmp op a b=>match argsR rn bor k [a,b] g with
  |some ([r1,r2],g2)=>match pk r1 g2,pk r2 g2 with
   |some d1,some d2=>match d8 op d1 d2 with |some c=>some (c,g2) |none=>none
   |_,_=>none
  |_=>none
 |.chain a ops l=>match dY rn bor k a g with
  |some (d1,g1)=>Dw rn bor k d1 ops l g1
  |none=>none
 |.not a=>match rn.t bor k a g with |some (c,g1)=>some (!c,g1) |none=>none
 |.and l=>vB rn bor k l g
 |.or l=>GL rn bor k l g
 |.ite _ _ _=>none
 |e=>match rn.e bor k e g with
  |some (r,g1)=>match pk (norm r) g1 with
   |some d=>match Kp d with |some c=>some (c,g1) |none=>none
   |none=>none
  |none=>none
noncomputable def mR(T:Tg)(b:G->Option (Fl×G)):List D->G->Option (Fl×G)
 | [],g=>some (.nx,g)
 |d::l,g=>match T.set d g with
  |none=>none
  |some g0=>match b g0 with
   |none=>none
   |some (.nx,g1)=>mR T b l g1
   |some (.ct,g1)=>mR T b l g1
   |some (.bk,g1)=>some (.nx,g1)
   |some (.rt r,g1)=>some (.rt r,g1)
noncomputable def Oc(c:G->Option (Bool×G))(b:G->Option (Fl×G)):Nat->G->Option (Fl×G)
 | 0,_=>none
 |n+1,g=>match c g with
  |none=>none
  |some (false,g1)=>some (.nx,g1)
  |some (true,g1)=>match b g1 with
   |none=>none
   |some (.nx,g2)=>Oc c b n g2
   |some (.ct,g2)=>Oc c b n g2
   |some (.bk,g2)=>some (.nx,g2)
   |some (.rt r,g2)=>some (.rt r,g2)
noncomputable def aF(st:Sm)(g:G):Option (Fl×G):=match st with
 |.ret e=>match rn.e bor k e g with |some (r,g1)=>some (.rt r,g1) |none=>none
 |.expr e=>match rn.e bor k e g with |some (_,g1)=>some (.nx,g1) |none=>none
 |.set i e=>if i∈bor then none else match rn.e bor k e g with
  |some (.new l,g1)=>if i<g1.length then some (.nx,g1.set i (.own l))else none
  |some (r,g1)=>match toD bor r g1 with |some (d,g2)=>some (.nx,g2.set i (.dat d)) |none=>none
  |none=>none
 |.setC i e=>if i∈bor then none else match e with
  |.comp n kk T it c e=>match dh rn bor k n kk T it c e g with
   |some (acc,g1)=>if i<g1.length then some (.nx,g1.set i (.own acc))else none
   |none=>none
  |_=>none
 |.tgt T e=>if T.ix.any (λi=>decide (i∈bor))=true then none else match dY rn bor k e g with
  |some (d,g1)=>match T.set d g1 with |some g2=>some (.nx,g2) |none=>none
  |none=>none
 |.item i j e=>match dY rn bor k e g with
  |some (d,g1)=>match g1[i]? with
   |some (.own _)=>match dY rn bor k j g1 with
    |some (.int n,g2)=>match g2[i]? with
     |some (.own l)=>match qo l.length n with |some m=>some (.nx,g2.set i (.own (l.set m d))) |none=>none
     |_=>none
    |_=>none
   |_=>none
  |none=>none
 |.par i j a b=>if i∈bor then none else if j∈bor then none else match mQ rn bor k [a,b] g with
  |some ([d1,d2],g1)=>some (.nx,(g1.set i (.dat d1)).set j (.dat d2))
  |_=>none
 |.items2 i x j y e=>match dY rn bor k e g with
  |some (.tup [d1,d2],g1)=>match g1[i]? with
   |some (.own _)=>match dY rn bor k x g1 with
    |some (.int n1,g2)=>match g2[i]? with
     |some (.own l)=>match qo l.length n1 with
      |some m1=>match (g2.set i (.own (l.set m1 d1)))[j]? with
       |some (.own _)=>match dY rn bor k y (g2.set i (.own (l.set m1 d1)))with
        |some (.int n2,g3)=>match g3[j]? with
         |some (.own l2)=>match qo l2.length n2 with |some m2=>some (.nx,g3.set j (.own (l2.set m2 d2))) |none=>none
         |_=>none
        |_=>none
       |_=>none
      |none=>none
     |_=>none
    |_=>none
   |_=>none
  |_=>none
 |.ite c a b=>match rn.t bor k c g with
  |some (true,g1)=>rn.b bor k a g1
  |some (false,g1)=>rn.b bor k b g1
  |none=>none
 |.loop T it b=>if T.ix.any (λi=>decide (i∈bor))=true then none else match gA rn bor k T.pI it g with
  |some (items,g1)=>mR T (rn.b bor k b) items g1
  |none=>none
 |.while c b=>Oc (rn.t bor k c) (rn.b bor k b) 100000 g
 |.raise _ _=>none
 |.calls ic x op rhs ret b=>match g[ic]? with
  |some .no=>match rn.e bor k x g with
   |some (.new ds,_)=>match rn.e bor k rhs g with
    |some (r2,g2)=>match pk (norm r2) g2 with
     |some d2=>match d8 op (.lst ds) d2 with
      |some c=>if ret=true then some (.rt (.dat (.bl c)),g2)else if c=true then rn.b bor k b g2 else some (.nx,g2)
      |none=>none
     |none=>none
    |none=>none
   |_=>none
  |_=>none
 |.stuck=>none
noncomputable def fH:List Sm->G->Option (Fl×G)
 | [],g=>some (.nx,g)
 |st::rest,g=>match aF rn bor k st g with
  |some (.nx,g1)=>fH rest g1
  |some (f,g1)=>some (f,g1)
  |none=>none
noncomputable def xArgs:List Ex->G->Option (Nat×G)
 | [],_=>none
 |e::es,g=>match rn.x bor k e g with
  |some r=>some r
  |none=>match rn.e bor k e g with
   |some (_,g1)=>xArgs es g1
   |none=>none
noncomputable def pK(fx:Fx)(k':Nat)(rs:List R)(g1:G):Option (Nat×G):=
 if rs.length=fx.np/\((vars 0 rs).map (·.2)).Nodup then match bQ rs g1 with
  |none=>none
  |some gs=>match rn.xb ((vars 0 rs).map (·.1)) k' fx.body (cT fx.n gs)with
   |some (ci,gc)=>match back (vars 0 rs) gc g1 with |some gO=>some (ci,gO) |none=>none
   |none=>none
 else none
noncomputable def vE(fns:List Fx)(e:Ex)(g:G):Option (Nat×G):=match e with
 |.call f l=>match xArgs rn bor k l g with
  |some r=>some r
  |none=>match fns[f]?,k with
   |some fx,k'+1=>match argsR rn bor k l g with
    |some (rs,g1)=>pK rn fx k' rs g1
    |none=>none
   |_,_=>none
 |_=>none
noncomputable def lK(e:Ex)(g:G):Option (Nat×G):=match e with
 |.not a=>rn.xt bor k a g
 |.call f l=>rn.x bor k (.call f l) g
 |_=>none
noncomputable def gQ(st:Sm)(g:G):Option (Nat×G):=match st with
 |.ret e=>rn.x bor k e g
 |.expr e=>rn.x bor k e g
 |.ite c a b=>match rn.xt bor k c g with
  |some r=>some r
  |none=>match rn.t bor k c g with
   |some (true,g1)=>rn.xb bor k a g1
   |some (false,g1)=>rn.xb bor k b g1
   |none=>none
 |.raise ci e=>match dY rn bor k e g with |some (_,g1)=>some (ci,g1) |none=>none
 |_=>none
noncomputable def eX:List Sm->G->Option (Nat×G)
 | [],_=>none
 |st::rest,g=>match gQ rn bor k st g with
  |some r=>some r
  |none=>match aF rn bor k st g with
   |some (.nx,g1)=>eX rest g1
   |_=>none
end
noncomputable def step(fns:List Fx)(rn:Rn):Rn:=⟨λbor k e g=>aN rn bor k fns e g,λbor k e g=>stepT rn bor k e g,λbor k l g=>fH rn bor k l g,λbor k e g=>vE rn bor k fns e g,λbor k e g=>lK rn bor k e g,λbor k l g=>eX rn bor k l g⟩
noncomputable def rn0:Rn:=⟨λ_ _ _ _=>none,λ_ _ _ _=>none,λ_ _ _ _=>none,λ_ _ _ _=>none,λ_ _ _ _=>none,λ_ _ _ _=>none⟩
noncomputable def run(fns:List Fx):Nat->Rn
 | 0=>rn0
 |n+1=>step fns (run fns n)
structure Ct where
 N:List Str
 sc:Scope
 df:Bool

 q:Str
structure Fi where
 name:Str
 qual:Str
 st:Stmt
 N:List Str
 ps:List Str
structure Pg where
 fn:List Fi
 ct:List (Str×D)
 bn:List Str
 cls:List Str:=[]

 lam:Bool:=false

 gD:List Addr:=[]

 kt:Str:=Str.empty

 ups:List (Str×List (Addr×Bool)):=[]
noncomputable def je:Str:= "_law_refusals_right.<locals>.<lambda>"
noncomputable def GQ(K:Frag)(mg:Str->Option Value)(bB:Value):Prop:=
 ∃c q,bB=.ref c/\(∀b:Heap,K.In b->PySem.W.CodeHd b c q)/\(q,je)∈cF K/\(∀b:Heap,K.In b->b.BuiltinsAt mg q)/\mainGlobals≠q
structure tR(P:Pg)(K:Frag)(mg:Str->Option Value):Prop where
 fn:∀(i:Nat) (fi:Fi),P.fn[i]?=some fi->∃f fd,mg fi.name=some (.ref f)/\Jd K fi.name fi.qual fi.st f fd/\bV fi.N fi.ps (aD fi.st)/\L2.Binds K fd fi.ps []/\(fi.name==("__debug__" : Str))=false
 ct:∀(x:Str) (d:D),(x,d)∈P.ct->(x==("__debug__" : Str))=false/\∃v u,mg x=some u/\RelV v u/\∀M H,Rep K M H d v
 bn:∀x∈P.bn,mg x=none
 cls:∀x∈P.cls,(x==("__debug__" : Str))=false/\∃C,mg x=some (.ref C)/\eL K C
 lam:P.lam=true->∀bB,PySem.W.codeIn K bB "_law_refusals_right" = true->GQ K mg bB
 gD:∀(i:Nat) (C:Addr),P.gD[i]?=some C->∃x,P.cls[i]?=some x/\mg x=some (.ref C)/\eL K C/\Dm K C
 kt:P.lam=true->(P.kt==("__debug__" : Str))=false/\∃D,mg P.kt=some (.ref D)/\eL K D/\∀C∈P.gD,qG K C D=true
 ups:∀(x:Str) (l:List (Addr×Bool)),(x,l)∈P.ups->(x==("__debug__" : Str))=false/\∃cv,((mg x=some cv/\∃D,cv=.ref D)\/(x∈P.bn/\x≠ "__name__" /\bootBuiltins x=some cv/\∃n,cv=.type n))/\PySem.W.kitOne K (.type "NoneType") cv=some false/\∀C b,l.lookup C=some b->PySem.W.kitOne K (.ref C) cv=some b
structure bf(P:Pg)(k:Nat)(X:Cx)(c:Ct):Prop where
 N:X.N=c.N
 nd:c.N.Nodup
 Vb:∀x,c.sc.names.lookup x=some .local->X.env.scope.names.lookup x=some .local
 kU:∀x,c.sc.names.lookup x=some .globalImplicit->Gl X x
 fre:∀x,c.sc.names.lookup x=some .cell\/c.sc.names.lookup x=some .free->X.env.scope.names.lookup x=some .cell\/X.env.scope.names.lookup x=some .free
 Y7:c.df=true->∀x,c.sc.names.lookup x=some .cell->X.env.scope.names.lookup x=some .cell
 fn:∀x,c.df=true\/c.sc.names.lookup x=some .local->X.fn x=true
 bk:c.df=true->X.env.blockKind=.function
 calm:X.calm=true
 xe:X.xe=λ_ _=>False
 md:tR P X.K X.mg
 room:cu k X.A
 lam:c.q = "_law_refusals_right" ->P.lam=true->X.env.qual ++ "<lambda>" = je/\GQ X.K X.mg X.env.code
noncomputable def jf(sc:Scope)(x:Str):Bool:=match sc.names.lookup x with |some .local=>true |some .cell=>true |some .free=>true |_=>false
noncomputable def jg(c:Ct)(x:Str):Bool:=match c.sc.names.lookup x with |some .local=>true |some .cell=>c.df |_=>false
noncomputable def bE(x:Str):Bool:=!(x==("__debug__" : Str))&&!(x==("__classdict__" : Str))
section
variable{P:Pg}{k:Nat}{X:Cx}{c:Ct}{x:Str}{i:Nat}
theorem bf.vis(h:bf P k X c)(hv:jf c.sc x=true):nI X.env.scope x:=by
 unfold jf at hv
 split at hv
 .
  rename_i e;exact .inl (h.Vb x e)
 .
  rename_i e;exact (h.fre x (.inl e)).elim (λq=>.inr (.inl q)) λq=>.inr (.inr q)
 .
  rename_i e;exact (h.fre x (.inr e)).elim (λq=>.inr (.inl q)) λq=>.inr (.inr q)
 .
  cases hv
theorem bf.nm(h:bf P k X c)(hi:c.N[i]?=some x)(hs:jg c x=true):Fe X x i:=by
 refine⟨h.N▸h.nd,by rw[h.N];exact hi,?_,.inl (h.fn x ?_)⟩
 .
  unfold jg at hs
  split at hs
  .
   rename_i e;exact .inl (h.Vb x e)
  .
   rename_i e;exact .inr (h.Y7 hs x e)
  .
   cases hs
 .
  unfold jg at hs
  split at hs
  .
   rename_i e;exact .inr e
  .
   exact .inl hs
  .
   cases hs
theorem bR(h:bE x=true):(x==("__debug__" : Str))=false/\(x==("__classdict__" : Str))=false:=by
 unfold bE at h
 simp only[aao,aco]at h
 exact h
variable{z:Z}
theorem cV{α:Type}{f:Int->Int->Option α}{a b:D}{r:α}(h:lJ f a b=some r):∃i j,a=.int i/\b=.int j/\f i j=some r:=by
 unfold lJ at h
 split at h
 .
  split at h
  .
   exact⟨_,_,rfl,rfl,h⟩
  .
   cases h
 .
  cases h
theorem Ln{d1 d2:D}{r:R}(hK:z.K=X.K)(h:RP d1 d2=some r):nJ X z (binaryOp .Add) d1 d2 r:=by
 unfold RP at h
 split at h
 .
  split at h
  .
   cases h;exact zh Pz
  .
   cases h
 .
  split at h
  .
   split at h
   .
    rename_i hc;cases h;exact QB hc
   .
    cases h
  .
   cases h
 .
  split at h
  .
   split at h
   .
    rename_i hc;cases h;exact J3 hK hc
   .
    cases h
  .
   cases h
 .
  cases h
theorem Lp{d1:D}{k:Int}{r:R}(hK:z.K=X.K)(h:Lj d1 k=some r):nJ X z (binaryOp .Mult) d1 (.int k) r:=by
 unfold Lj at h
 split at h
 .
  split at h
  .
   rename_i hc;cases h
   refine sU PJ ?_
   unfold Li at hc
   simp only[abu,aao,aaz]at hc
   exact hc
  .
   cases h
 .
  split at h
  .
   rename_i hc;cases h;exact QC hc.1 hc.2.1 hc.2.2
  .
   cases h
 .
  cases h
theorem RT(hK:z.K=X.K)(h:vt op d1 d2=some r):nJ X z (binaryOp op) d1 d2 r:=by
 cases op with
 |Add=>exact Ln hK h
 |Sub=>obtain⟨i,j,rfl,rfl,h'⟩:=cV h;cases h';exact zh PB
 |Mult=>
  dsimp only[vt]at h
  split at h
  .
   exact Lp hK h
  .
   cases h
 |FloorDiv=>
  obtain⟨i,j,rfl,rfl,h'⟩:=cV h
  split at h'
  .
   rename_i hc;cases h';exact sU Jv hc
  .
   cases h'
 |Mod=>
  obtain⟨i,j,rfl,rfl,h'⟩:=cV h
  split at h'
  .
   rename_i hc;cases h';exact sU PK hc
  .
   cases h'
 |Pow=>
  obtain⟨i,j,rfl,rfl,h'⟩:=cV h
  split at h'
  .
   rename_i hc;cases h';exact sU sG ⟨hc.1,by have:=hc.2.1;lia,hc.2.2⟩
  .
   cases h'
 |_=>cases h
theorem jE(hK:z.K=X.K)(hr:cu k X.A)(h:d8 op d1 d2=some b):nJ X z (compareOp op) d1 d2 (.dat (.bl b)):=by
 have hu:=hr.un
 cases op with
 |Eq=>
  dsimp only[d8]at h
  split at h
  .
   rename_i hc;cases h
   simp only[eV,aao,aaz]at hc
   exact Wq hK hc.1.1 hc.1.2 (by have:=hc.2;lia)
  .
   cases h
 |NotEq=>
  dsimp only[d8]at h
  split at h
  .
   rename_i hc;cases h
   simp only[eV,aao,aaz]at hc
   exact Ws hK hc.1.1 hc.1.2 (by have:=hc.2;lia)
  .
   cases h
 |Lt=>
  dsimp only[d8,ltF]at h
  split at h
  .
   split at h
   .
    cases h;exact sV VN
   .
    cases h
  .
   split at h
   .
    split at h
    .
     rename_i h1
     split at h
     .
      rename_i h2;cases h;exact QH hK (by lia) h1 h2
     .
      cases h
    .
     cases h
   .
    cases h
  .
   cases h
 |LtE=>obtain⟨i,j,rfl,rfl,h'⟩:=cV h;cases h';exact sV VP
 |Gt=>obtain⟨i,j,rfl,rfl,h'⟩:=cV h;cases h';exact sV VR
 |GtE=>obtain⟨i,j,rfl,rfl,h'⟩:=cV h;cases h';exact sV V0
 |In=>
  dsimp only[d8]at h
  split at h
  .
   rename_i hs
   split at h
   .
    rename_i hc;cases h
    simp only[vA,aao,aaz]at hc
    exact Wt hK hs hc.1.1 hc.1.2 (by have:=hc.2;lia)
   .
    cases h
  .
   cases h
 |_=>cases h
theorem RV(hK:z.K=X.K)(h:Du d1 d2=some d):Wk X z d1 d2 (.dat d):=by
 unfold Du at h
 split at h
 .
  exact QF hK h
 .
  exact QG hK h
 .
  exact J4 hK h
 .
  cases h
noncomputable def Y8:Bl->Str×Value
 |.len=>("len",.builtin "len")
 |.list=>("list",.type "list")
 |.tuple=>("tuple",.type "tuple")
 |.max=>("max",.builtin "max")
 |.min=>("min",.builtin "min")
 |.str=>("str",.type "str")
 |.all=>("all",.builtin "all")
 |.sorted=>("sorted",.builtin "sorted")
 |.sum=>("sum",.builtin "sum")
theorem RW{b:Bl}{d:D}{r:R}(hK:z.K=X.K)(hc:X.calm=true)(h:RQ b d=some r):CallD X z (Y8 b).2 [d] r:=by
 cases b <;> dsimp only[RQ]at h
 case len=>
  split at h
  .
   rename_i e;cases h;exact QK hK e
  .
   cases h
 case list=>
  split at h
  .
   rename_i e;cases h;exact J5 hK e
  .
   cases h
 case tuple=>
  split at h
  .
   rename_i e;cases h;exact Et hK e
  .
   cases h
 case all=>
  split at h
  .
   split at h
   .
    rename_i e;cases h;exact QS hc e
   .
    cases h
  .
   cases h
 case sorted=>
  split at h
  .
   rename_i e1
   split at h
   .
    rename_i e2
    split at h
    .
     rename_i e3;cases h;exact Bo hK e1 e2 e3
    .
     cases h
   .
    split at h
    .
     rename_i e2
     split at h
     .
      rename_i e3;cases h;exact xK hK e1 e2 e3
     .
      cases h
    .
     cases h
  .
   cases h
 all_goals cases h
theorem RX(hK:z.K=X.K)(hc:X.calm=true)(h:pJ b ds=some r):CallD X z (Y8 b).2 ds r:=by
 unfold pJ at h
 split at h
 .
  exact RW hK hc h
 .
  cases b with
  |max=>obtain⟨i,j,rfl,rfl,h'⟩:=cV h;cases h';exact QL hc
  |min=>obtain⟨i,j,rfl,rfl,h'⟩:=cV h;cases h';exact QM hc
  |_=>cases h
 .
  cases h
noncomputable def RZ:Mt->Str
 |.count=> "count"
 |.index=> "index"
noncomputable def yf:Mt->D->String
 |.count,d=>WX d
 |.index,d=>N6 d
theorem R0{m:Mt}{d0 d1 x:D}(hK:z.K=X.K)(hr:cu k X.A)(h:Xj m d0 d1=some x):Gi X z (yf m d0) d0 d1 (.dat x):=by
 have hu:=hr.un
 unfold Xj at h
 split at h
 .
  cases h
 .
  split at h
  .
   rename_i hs
   split at h
   .
    rename_i hc
    split at h
    .
     rename_i hj;cases h
     simp only[vA,aao,aaz]at hc
     exact Gk hK hs hc.1.1 hc.1.2 (by have:=hc.2;lia) hj
    .
     cases h
   .
    cases h
  .
   cases h
theorem Lq(hs:cR d=some l)(he:yf m d0=yf m d):PlainAttrs (j8 d)/\PySem.Slot (j8 d) (RZ m) (yf m d0)/\typeOf (.builtin (yf m d0))=pure (.type "method_descriptor"):=by
 rw[he]
 cases d with
 |tup _=>cases m;exact⟨F.plainAttrs_tuple,F.slot_tuple_count,F.type_tuple_count⟩;exact⟨F.plainAttrs_tuple,F.slot_tuple_index,F.type_tuple_index⟩
 |lst _=>cases m;exact⟨acq,F.slot_list_count,F.type_list_count⟩;exact⟨acq,acp,F.type_list_index⟩
 |fix _=>cases m;exact⟨acq,F.slot_list_count,F.type_list_count⟩;exact⟨acq,acp,F.type_list_index⟩
 |_=>cases hs
theorem Lr(h1:pk r g1=some d)(h2:pk r g2=some d0):yf m d0=yf m d:=by
 cases r with
 |dat x=>cases h1;cases h2;rfl
 |new _=>cases h1
 |var i=>
  unfold pk at h1 h2
  dsimp only at h1 h2
  split at h1
  .
   split at h2
   .
    cases h1;cases h2;cases m <;> rfl
   .
    cases h2
  .
   cases h1
noncomputable def qK:List String:=["int", "bool", "str", "tuple", "list", "dict"]
theorem vF{K:Frag}{M:List Addr}{H:Hp}{v:V}{d:D}(p:Pk K M H d v){n:String}(hn:n∈qK):PySem.W.kitOne K (Dn d) (.type n)=some (eW (j8 d) n):=by
 cases d with
 |mC C=>
  cases p with
  |of q=>
   cases q with
   |mC k _ _=>
    refine (k.kit n hn).trans ?_
    unfold qK at hn
    simp only[aaj,aaO,abO]at hn
    rcases hn with rfl |rfl |rfl |rfl |rfl |rfl <;> first |rfl |decide
 |_=>
  unfold qK at hn
  simp only[aaj,aaO,abO]at hn
  rcases hn with rfl |rfl |rfl |rfl |rfl |rfl <;> first |rfl |decide
theorem rP{K:Frag}{M:List Addr}{H:Hp}{v:V}{d:D}(p:Pk K M H d v):∀{ns:List String},(∀n∈ns,n∈qK)->PySem.W.kitAny K (Dn d) (ns.map Value.type)=some (ns.any (eW (j8 d)))
 | [],_=>rfl
 |n::ns,h=>by
  show (match PySem.W.kitOne K (Dn d) (.type n)with |some true=>some true |some false=>PySem.W.kitAny K (Dn d) (ns.map Value.type) |none=>none)=_
  rw[vF p (h n aah),rP p λm hm=>h m (aaf _ hm),List.any_cons]
  cases eW (j8 d) n <;> rfl
end
noncomputable def qL(sc scope:Scope):Bool:=decide (scope.kind=.function)&&scope.names.all λy=>decide (y.2≠.cell)&&(decide (y.2≠.local)||decide (scope.names.lookup y.1=some .local)) &&
 (decide (y.2≠.free)||(decide (scope.names.lookup y.1=some .free)&&(decide (sc.names.lookup y.1=some .cell)||decide (sc.names.lookup y.1=some .free))))
noncomputable def jF(N N':List Str)(scope:Scope)(k:Nat):Bool:=decide (N'.length=N.length+(k+1))&&(match N'[N.length+k]? with |some x=>decide (scope.names.lookup x=none) |none=>true) &&
 (List.range N.length).all λi=>match N'[i]? with |some x=>decide (scope.names.lookup x=none)||(decide (N[i]?=some x)&&decide (scope.names.lookup x≠some .local)) |none=>true
inductive Cb(c:Ct):List Expr->List Nat->Prop
 |nil:Cb c [] []
 |cons {x:Str}{i:Nat}{pos:Pos}{es:List Expr}{is:List Nat}:c.N[i]?=some x->jg c x=true->Cb c es is->Cb c (.Name x pos::es) (i::is)
inductive yg(P:Pg)(c:Ct):List Expr->List String->Prop
 |nil:yg P c [] []
 |cons {T:Str}{n:String}{pos:Pos}{es:List Expr}{ns:List String}:T∈P.bn->c.sc.names.lookup T=some .globalImplicit->T=Str.ofString n->n∈qK->yg P c es ns->yg P c (.Name T pos::es) (n::ns)
inductive Ls(c:Ct):Expr->Tg->Prop
 |nm:c.N[i]?=some x->jg c x=true->Ls c (.Name x pos) (.nm i)
 |tp {es:List Expr}{is:List Nat}{k:Nat}{pos:Pos}:Cb c es is->Ls c (.Tuple es k pos) (.tp is)
noncomputable def Lv(c:Ct)(x y:Str)(px py:Pos)(a b:Expr):Bool:=(c.sc.names.lookup x==some .local)&&(c.sc.names.lookup y==some .local)&&py.line==px.line&&!(x==y)&&!(foldedForSure 8 a&&foldedForSure 8 b)&&!(constantsAlone 8 a&&constantsAlone 8 b)&&c.df
noncomputable def Vc(c:Ct)(y:Str)(py pos:Pos)(scope:Scope):Bool:=(c.sc.names.lookup y==some .local)&&py.line==pos.line&&!(scope.names.any λ(n,k)=>n==y&&(k==.local||k==.cell))
noncomputable def nmW(e:Expr):Option Str:=match e with |.Name x _=>some x |_=>none
noncomputable def tp2(e:Expr):Bool:=match e with |.Tuple vs _ _=>decide (vs.length=2) |_=>false
noncomputable def GR(c:Ct)(es:List Expr)(e:Expr):Bool:=match es with
 | [a,b]=>tp2 e&&(c.df&&(match nmW a with |some x=>(match nmW b with |some y=>decide (c.sc.names.lookup x=some .cell)||decide (c.sc.names.lookup y=some .cell) |none=>false) |none=>false))
 |_=>false
inductive jG(R:Expr->Ex->Prop):List Expr->List Ex->Prop
 |nil:jG R [] []
 |cons {e:Expr}{es:List Expr}{x:Ex}{xs:List Ex}:R e x->jG R es xs->jG R (e::es) (x::xs)
inductive vG(R:Expr->Ex->Prop):List Expr->List (Bool×Ex)->Prop
 |nil:vG R [] []
 |con {y:Str}{j:Nat}{p:Pos}{es:List Expr}{l:List (Bool×Ex)}:vG R es l->vG R (.Constant (.str y) j p::es) ((false,.val (.str y))::l)
 |fmt:R v x->vG R es l->vG R (.FormattedValue v (-1) Option.none p::es) ((true,x)::l)
inductive Cd(R:Expr->Ex->Prop):Option Expr->Option Ex->Prop
 |none:Cd R Option.none Option.none
 |some {e:Expr}{x:Ex}:R e x->Cd R (Option.some e) (Option.some x)
inductive vH(R:Expr->Ex->Prop):List Expr->Option Ex->Prop
 |none:vH R [] Option.none
 |some {e:Expr}{x:Ex}:R e x->vH R [e] (Option.some x)
inductive qM(P:Pg)(R:Expr->Ex->Prop)(c:Ct):Expr->Ex->Prop
 |seq:R e x->qM P R c e x
 |dN:R a xa->("range" : Str)∈P.bn->c.sc.names.lookup ("range" : Str)=some .globalImplicit->qM P R c (.Call (.Name "range" p) [a] [] pos) (.dN xa)
 |jd:R a xa->R b xb->("range" : Str)∈P.bn->c.sc.names.lookup ("range" : Str)=some .globalImplicit->qM P R c (.Call (.Name "range" p) [a,b] [] pos) (.jd xa xb)
 |qI:R a xa->R b xb->R s xs->("range" : Str)∈P.bn->c.sc.names.lookup ("range" : Str)=some .globalImplicit->qM P R c (.Call (.Name "range" p) [a,b,s] [] pos) (.qI xa xb xs)
 |zip:R a xa->R b xb->("zip" : Str)∈P.bn->c.sc.names.lookup ("zip" : Str)=some .globalImplicit->qM P R c (.Call (.Name "zip" p) [a,b] [] pos) (.zip xa xb)
noncomputable def Xl(e:Expr):Option Str:=match e with |.Name x _=>some x |_=>none
theorem tT{e:Expr}{x:Str}(h:Xl e=some x):∃p,e=.Name x p:=by cases e <;> first | (cases h;exact⟨_,rfl⟩) |cases h
noncomputable def GX{α:Type}(l:List α):Option α:=match l with | [a]=>some a |_=>none
theorem nR{α:Type}{l:List α}{a:α}(h:GX l=some a):l=[a]:=by
 cases l with
 |nil=>cases h
 |cons b l=>cases l with
  |nil=>cases h;rfl
  |cons _ _=>cases h
noncomputable def Xm(s:Stmt):Option (List Expr×Expr):=match s with |.Assign ts e _=>some (ts,e) |_=>none
theorem Lw{s:Stmt}{r:List Expr×Expr}(h:Xm s=some r):∃p,s=.Assign r.1 r.2 p:=by cases s <;> first | (cases h;exact⟨_,rfl⟩) |cases h
noncomputable def Xn(e:Expr):Option Const:=match e with |.Constant c _ _=>some c |_=>none
theorem Lx(h:Xn e=some c):∃j p,e=.Constant c j p:=by cases e <;> first | (cases h;exact⟨_,_,rfl⟩) |cases h
noncomputable def Xo(c:Const):Option Unit:=match c with |.none=>some () |_=>none
theorem Ly(h:Xo c=some ()):c=.none:=by cases c <;> first |rfl |cases h
noncomputable def Xp(s:Stmt):Option Expr:=match s with |.Expr e _=>some e |_=>none
theorem Lz{s:Stmt}{e:Expr}(h:Xp s=some e):∃p,s=.Expr e p:=by cases s <;> first | (cases h;exact⟨_,rfl⟩) |cases h
noncomputable def Xq(e:Expr):Option (Expr×List Expr×List Keyword):=match e with |.Call f as ks _=>some (f,as,ks) |_=>none
theorem LC{e:Expr}{r:Expr×List Expr×List Keyword}(h:Xq e=some r):∃p,e=.Call r.1 r.2.1 r.2.2 p:=by cases e <;> first | (cases h;exact⟨_,rfl⟩) |cases h
noncomputable def Xr(s:Stmt):Option (List Stmt×List ExceptHandler×List Stmt×List Stmt):=match s with |.Try b h o f _=>some (b,h,o,f) |_=>none
theorem LK{s:Stmt}{r:List Stmt×List ExceptHandler×List Stmt×List Stmt}(h:Xr s=some r):∃p,s=.Try r.1 r.2.1 r.2.2.1 r.2.2.2 p:=by cases s <;> first | (cases h;exact⟨_,rfl⟩) |cases h
noncomputable def GZ{α:Type}(l:List α):Option Unit:=match l with | []=>some () |_=>none
theorem nU{α:Type}{l:List α}(h:GZ l=some ()):l=[]:=by cases l with |nil=>rfl |cons _ _=>cases h
noncomputable def Xs(h:ExceptHandler):Option (Expr×Str×List Stmt):=match h with |.ExceptHandler t n b _=>t.bind λt=>n.bind λn=>some (t,n,b)
theorem LQ{h:ExceptHandler}{r:Expr×Str×List Stmt}(e:Xs h=some r):∃p,h=.ExceptHandler (some r.1) (some r.2.1) r.2.2 p:=by
 obtain⟨t,n,b,p⟩:=h
 cases t with
 |none=>cases e
 |some t=>cases n with
  |none=>cases e
  |some n=>cases e;exact⟨p,rfl⟩
noncomputable def zK(s:Stmt):Option (Str×Expr):=(Xm s).bind λr=>(GX r.1).bind λt=>(Xl t).bind λx=>some (x,r.2)
theorem vI{s:Stmt}{r:Str×Expr}(h:zK s=some r):∃p q,s=.Assign [.Name r.1 p] r.2 q:=by
 unfold zK at h
 simp only[aap]at h
 obtain⟨⟨ts,e⟩,h1,t,h2,x,h3,h4⟩:=h
 cases h4
 obtain⟨p,rfl⟩:=Lw h1
 obtain⟨q,rfl⟩:=tT h3
 have:=nR h2
 dsimp only at this
 subst this
 exact⟨q,p,rfl⟩
noncomputable def R5(l:List Stmt):Option Str:=(GX l).bind λs3=>(Xp s3).bind λce=>(Xq ce).bind λf=>(GZ f.2.1).bind λ_=>(GZ f.2.2).bind λ_=>Xl f.1
theorem LR{l:List Stmt}{y:Str}(h:R5 l=some y):∃py cp ep,l=[.Expr (.Call (.Name y py) [] [] cp) ep]:=by
 replace h:=aap.1 h;obtain⟨s3,h1,h⟩:=h
 cases nR h1;clear h1
 replace h:=aap.1 h;obtain⟨ce,h1,h⟩:=h
 obtain⟨p,e1⟩:=Lz h1
 cases e1;clear h1
 replace h:=aap.1 h;obtain⟨⟨f1,f2,f3⟩,h1,h⟩:=h
 obtain⟨q,e1⟩:=LC h1
 cases e1;clear h1
 replace h:=aap.1 h;obtain⟨_,h1,h⟩:=h
 replace h:=aap.1 h;obtain⟨_,h2,h⟩:=h
 obtain⟨r,e1⟩:=tT h
 exact⟨r,q,p,by have a:=nU h1;have b:=nU h2;dsimp only at a b e1 ⊢;rw[a,b,e1]⟩
noncomputable def R8(l:List ExceptHandler):Option (Str×Str×Str×Str):=(GX l).bind λhh=>(Xs hh).bind λu=>(Xl u.1).bind λke=>(GX u.2.2).bind λs4=>(zK s4).bind λb=>(Xl b.2).bind λOd=>some (ke,u.2.1,b.1,Od)
theorem LW{l:List ExceptHandler}{r:Str×Str×Str×Str}(h:R8 l=some r):∃kp rK rL ap hp,l=[.ExceptHandler (some (.Name r.1 kp)) (some r.2.1) [.Assign [.Name r.2.2.1 rK] (.Name r.2.2.2 rL) ap] hp]:=by
 replace h:=aap.1 h;obtain⟨hh,h1,h⟩:=h
 cases nR h1;clear h1
 replace h:=aap.1 h;obtain⟨⟨u1,u2,u3⟩,h1,h⟩:=h
 obtain⟨p,e1⟩:=LQ h1
 cases e1;clear h1
 replace h:=aap.1 h;obtain⟨ke,h1,h⟩:=h
 obtain⟨q,e1⟩:=tT h1
 cases e1;clear h1
 replace h:=aap.1 h;obtain⟨s4,h1,h⟩:=h
 cases nR h1;clear h1
 replace h:=aap.1 h;obtain⟨⟨b1,b2⟩,h1,h⟩:=h
 obtain⟨m,n,e1⟩:=vI h1
 cases e1;clear h1
 replace h:=aap.1 h;obtain⟨en,h1,h⟩:=h
 obtain⟨o,e1⟩:=tT h1
 cases e1;clear h1
 cases h
 exact⟨q,m,o,n,p,rfl⟩
noncomputable def Xu(s:Stmt):Option Str:=(zK s).bind λa=>(Xn a.2).bind λc=>(Xo c).bind λ_=>some a.1
theorem L0(h:Xu s=some x):∃p j np ap,s=.Assign [.Name x p] (.Constant .none j np) ap:=by
 replace h:=aap.1 h;obtain⟨⟨a1,a2⟩,h1,h⟩:=h
 obtain⟨p,q,e1⟩:=vI h1
 cases e1;clear h1
 replace h:=aap.1 h;obtain⟨c,h1,h⟩:=h
 obtain⟨j,m,e1⟩:=Lx h1
 cases e1;clear h1
 replace h:=aap.1 h;obtain⟨_,h1,h⟩:=h
 cases Ly h1;clear h1
 cases h
 exact⟨p,j,m,q,rfl⟩
noncomputable def Xv(s:Stmt):Option (Str×Str×Str×Str×Str):=(Xr s).bind λt=>(GZ t.2.2.1).bind λ_=>(GZ t.2.2.2).bind λ_=>(R5 t.1).bind λy=>(R8 t.2.1).bind λu=>some (y,u)
theorem L1{s:Stmt}{r:Str×Str×Str×Str×Str}(h:Xv s=some r):∃l hs p,R5 l=some r.1/\R8 hs=some r.2/\s=.Try l hs [] [] p:=by
 replace h:=aap.1 h;obtain⟨⟨t1,t2,t3,t4⟩,h1,h⟩:=h
 obtain⟨p,e1⟩:=LK h1
 cases e1;clear h1
 replace h:=aap.1 h;obtain⟨_,h1,h⟩:=h
 cases nU h1;clear h1
 replace h:=aap.1 h;obtain⟨_,h1,h⟩:=h
 cases nU h1;clear h1
 replace h:=aap.1 h;obtain⟨y,h1,h⟩:=h
 replace h:=aap.1 h;obtain⟨u,h2,h⟩:=h
 cases h
 exact⟨t1,t2,p,h1,h2,rfl⟩
noncomputable def R9(l:List Stmt):Option (Str×Str×Str×Str×Str×Str):=match l with
 |s1::s2::_=>(Xu s1).bind λa=>(Xv s2).bind λt=>some (a,t)
 |_=>none
theorem L5(h:R9 l=some (er,y,ke,en,Jj,Od)):∃xV j np RD py aG kN kp rK rL aQ kP jR rest,l=.Assign [.Name er xV] (.Constant .none j np) RD::.Try [.Expr (.Call (.Name y py) [] [] aG) kN] [.ExceptHandler (some (.Name ke kp)) (some en) [.Assign [.Name Jj rK] (.Name Od rL) aQ] kP] [] [] jR::rest:=by
 unfold R9 at h
 split at h
 .
  replace h:=aap.1 h;obtain⟨a,h1,h⟩:=h
  replace h:=aap.1 h;obtain⟨t,h2,h⟩:=h
  cases h
  obtain⟨p,j,np,ap,e1⟩:=L0 h1
  obtain⟨l,hs,tp,h3,h4,e2⟩:=L1 h2
  obtain⟨py,cp,ep,e3⟩:=LR h3
  obtain⟨kp,rK,rL,ap',hp,e4⟩:=LW h4
  exact⟨p,j,np,ap,py,cp,ep,kp,rK,rL,ap',hp,tp,_,by rw[e1,e2,e3,e4]⟩
 .
  cases h
noncomputable def G0(fi:Fi)(ir:Nat)(kt:Str):Bool:=match R9 (cD fi.st)with
 |some (er,y,ke,en,Jj,Od)=>decide ((ke=kt/\Jj=er/\Od=en/\fi.ps=[y])/\((aD fi.st).names.lookup ke=some .globalImplicit/\fi.N[fi.N.idxOf en]?=some en/\(aD fi.st).names.lookup en=some .local)/\(fi.N[ir]?=some er/\fi.N[0]?=some y)/\(fi.N.idxOf en≠ir/\fi.N.idxOf en≠0/\ir≠0))&&((bE en&&bE y)&&(jf (aD fi.st) y&&jg ⟨fi.N,aD fi.st,true,fi.qual⟩ er))
 |none=>false
noncomputable def Ce(params:Arguments)(scope:Scope):Bool:=match params with
 |⟨[],[],none,[],[],none,[]⟩=>(!scope.isCoroutine&&!scope.isGenerator)&&(decide (scope.kind=.function)&&scope.names.all λy=>decide (y.2≠.cell)&&decide (y.2≠.local))
 |_=>false
theorem tU(h:Ce params scope=true):dZ params scope:=by
 unfold Ce at h
 split at h
 .
  simp only[aao,aco,aaz,aaK]at h
  exact⟨h.1.1,h.1.2,h.2.1,λx hx=>(h.2.2 x hx).1,λx hx=>(h.2.2 x hx).2,rfl⟩
 .
  cases h
noncomputable def Se(e:Expr):Bool:=match e with
 |.Slice none none (some (.UnaryOp .USub (.Constant (.int i) _ _) _)) _=>decide (i=1)
 |_=>false
theorem L7{e:Expr}(h:Se e=true):∃j p1 p2 p3,e=.Slice none none (some (m1 j p1 p3)) p2:=by
 unfold Se at h
 split at h
 .
  obtain rfl:=aaH h
  exact⟨_,_,_,_,rfl⟩
 .
  cases h
noncomputable def Sf(e:Expr):Bool:=match e with
 |.Dict [] [] _=>true
 |_=>false
theorem L8{e:Expr}(h:Sf e=true):∃p,e=.Dict [] [] p:=by
 unfold Sf at h
 split at h
 .
  exact⟨_,rfl⟩
 .
  cases h
noncomputable def G3(es:List Expr)(k:Arguments->Expr->Scope->Bool):Bool:=match es with
 | [.Lambda p b s _]=>k p b s
 |_=>false
theorem G4{es:List Expr}{k:Arguments->Expr->Scope->Bool}(h:G3 es k=true):∃p b s pos,es=[.Lambda p b s pos]/\k p b s=true:=by
 unfold G3 at h
 split at h
 .
  exact⟨_,_,_,_,rfl,h⟩
 .
  cases h
inductive gZ(P:Pg)(R:Ct->Expr->Ex->Prop)(c:Ct):Expr->Ex->Prop
 |int {i:Int}{j:Nat}{pos:Pos}:gZ P R c (.Constant (.int i) j pos) (.val (.int i))
 |bool:gZ P R c (.Constant (.bool i) j pos) (.val (.bl i))
 |none {j:Nat}{pos:Pos}:gZ P R c (.Constant .none j pos) (.val .non)
 |str:gZ P R c (.Constant (.str i) j pos) (.val (.str i))
 |var {x:Str}{i:Nat}{pos:Pos}:c.N[i]?=some x->jf c.sc x=true->bE x=true->gZ P R c (.Name x pos) (.slot i)
 |glob {x:Str}{d:D}{pos:Pos}:(x,d)∈P.ct->c.sc.names.lookup x=some .globalImplicit->gZ P R c (.Name x pos) (.val d)
 |bin {a b:Expr}{xa xb:Ex}{op:Operator}{pos:Pos}:R c a xa->R c b xb->gZ P R c (.BinOp a op b pos) (.bin op xa xb)
 |cmp {a b:Expr}{xa xb:Ex}{op:CmpOp}{pos:Pos}:R c a xa->R c b xb->behindInMarks op b=false->gZ P R c (.Compare a [op] [b] pos) (.cmp op xa xb)
 |chain {a b1 b2:Expr}{bs:List Expr}{xa x1 x2:Ex}{xs:List Ex}{Fp Fq:CmpOp}{ops:List CmpOp}{pos:Pos}:R c a xa->jG (R c) (b1::b2::bs) (x1::x2::xs)->lastMarks (Fp::Fq::ops) (b1::b2::bs)=false->gZ P R c (.Compare a (Fp::Fq::ops) (b1::b2::bs) pos) (.chain xa (Fp::Fq::ops) (x1::x2::xs))
 |neg {a:Expr}{xa:Ex}{pos:Pos}:R c a xa->gZ P R c (.UnaryOp .USub a pos) (.neg xa)
 |not {a:Expr}{xa:Ex}{pos:Pos}:R c a xa->gZ P R c (.UnaryOp .Not a pos) (.not xa)
 |and {es:List Expr}{xs:List Ex}{pos:Pos}:jG (R c) es xs->gZ P R c (.BoolOp .And es pos) (.and xs)
 |or {es:List Expr}{xs:List Ex}{pos:Pos}:jG (R c) es xs->gZ P R c (.BoolOp .Or es pos) (.or xs)
 |ite {t a b:Expr}{xt xa xb:Ex}{pos:Pos}:R c t xt->R c a xa->R c b xb->gZ P R c (.IfExp t a b pos) (.ite xt xa xb)
 |tup {es:List Expr}{xs:List Ex}{k:Nat}{pos:Pos}:jG (R c) es xs->gZ P R c (.Tuple es k pos) (.tup xs)
 |lst {es:List Expr}{xs:List Ex}{pos:Pos}:jG (R c) es xs->gZ P R c (.List es pos) (.lst xs)
 |ix {a b:Expr}{xa xb:Ex}{pos:Pos}:R c a xa->R c b xb->gZ P R c (.Subscript a b pos) (.ix xa xb)
 |slice {a:Expr}{lo hi:Option Expr}{xa:Ex}{xl xh:Option Ex}{p2 pos:Pos}:R c a xa->Cd (R c) lo xl->Cd (R c) hi xh->gZ P R c (.Subscript a (.Slice lo hi Option.none p2) pos) (.slice xa xl xh)
 |call {x:Str}{f:Nat}{fi:Fi}{e:Expr}{es:List Expr}{xs:List Ex}{p pos:Pos}:P.fn[f]?=some fi->fi.name=x->c.sc.names.lookup x=some .globalImplicit->jG (R c) (e::es) xs->gZ P R c (.Call (.Name x p) (e::es) [] pos) (.call f xs)
 |blt {x:Str}{b:Bl}{e:Expr}{es:List Expr}{xs:List Ex}{p pos:Pos}:(Y8 b).1=x->x∈P.bn->c.sc.names.lookup x=some .globalImplicit->jG (R c) (e::es) xs->gZ P R c (.Call (.Name x p) (e::es) [] pos) (.blt b xs)
 |qH {a:Expr}{xa:Ex}{T:Str}{n:String}{p pT pos:Pos}:R c a xa->("isinstance" : Str)∈P.bn->c.sc.names.lookup ("isinstance" : Str)=some .globalImplicit->T∈P.bn->c.sc.names.lookup T=some .globalImplicit->T=Str.ofString n->n∈qK->gZ P R c (.Call (.Name "isinstance" p) [a,.Name T pT] [] pos) (.qH xa n)
 |tN {a:Expr}{xa:Ex}{es:List Expr}{ns:List String}{k:Nat}{p pT pos:Pos}:R c a xa->("isinstance" : Str)∈P.bn->c.sc.names.lookup ("isinstance" : Str)=some .globalImplicit->ns.length<=100->
   yg P c es ns->gZ P R c (.Call (.Name "isinstance" p) [a,.Tuple es k pT] [] pos) (.tN xa ns)
 |rev {a:Expr}{xa:Ex}{j:Nat}{p1 p2 p3 pos:Pos}:R c a xa->gZ P R c (.Subscript a (.Slice none none (some (m1 j p1 p3)) p2) pos) (.rev xa)
 |emp {pos:Pos}:gZ P R c (.Dict [] [] pos) .emp
 |peek {x:Str}{e:Expr}{es:List Expr}{xe:Ex}{p pos:Pos}:R c (.Call (.Name x p) (e::es) [] pos) xe->gZ P R c (.Call (.Name x p) (e::es) [] pos) (.peek xe)
 |stk {a b:Expr}{op:Operator}{pos:Pos}:gZ P R c (.BinOp a op b pos) .stk
 |tQ {a:Expr}{xa:Ex}{T:Str}{l:List (Addr×Bool)}{p pT pos:Pos}:R c a xa->("isinstance" : Str)∈P.bn->c.sc.names.lookup ("isinstance" : Str)=some .globalImplicit->(T,l)∈P.ups->c.sc.names.lookup T=some .globalImplicit->gZ P R c (.Call (.Name "isinstance" p) [a,.Name T pT] [] pos) (.tQ xa l)
 |ig {x:Str}{f ir:Nat}{fi:Fi}{params:Arguments}{body:Expr}{scope:Scope}{xb:Ex}{ca:List Addr}{fp Cg pos:Pos}:P.fn[f]?=some fi->fi.name=x->(ca=P.gD/\c.sc.names.lookup x=some .globalImplicit\/ca=[])->c.q = "_law_refusals_right" ->P.lam=true->G0 fi ir P.kt=true->qL c.sc scope=true->Ce params scope=true->
   R ⟨c.N,scope,false,Str.empty⟩ body xb->gZ P R c (.Call (.Name x fp) [.Lambda params body scope Cg] [] pos) (.ig f ir ca xb)
 |comp {tg iter dI:Expr}{ifs:List Expr}{scope:Scope}{N':List Str}{k:Nat}{T:Tg}{it xe:Ex}{co:Option Ex}{pos:Pos}:qL c.sc scope=true->jF c.N N' scope k=true->N'.Nodup->Ls ⟨N',scope,false,Str.empty⟩ tg T->(∀i∈T.ix,c.N.length<=i/\i<c.N.length+k)->
   qM P (R c) c iter it->vH (R ⟨N',scope,false,Str.empty⟩) ifs co->R ⟨N',scope,false,Str.empty⟩ dI xe->gZ P R c (.ListComp dI [⟨tg,iter,ifs,0⟩] scope pos) (.comp c.N.length k T it co xe)
 |d7 {a:Expr}{xa:Ex}{lp p rp pos:Pos}:R c a xa->("range" : Str)∈P.bn->c.sc.names.lookup ("range" : Str)=some .globalImplicit->("list" : Str)∈P.bn->c.sc.names.lookup ("list" : Str)=some .globalImplicit->gZ P R c (.Call (.Name "list" lp) [.Call (.Name "range" p) [a] [] rp] [] pos) (.d7 xa)
 |meth {o e:Expr}{xo xe:Ex}{m:Mt}{name:Str}{aQ aG:Pos}:R c o xo->R c e xe->RZ m=name->(aQ.endLine==aG.line)=true->gZ P R c (.Call (.Attribute o name aQ) [e] [] aG) (.meth m xo xe)
 |qJ {es:List Expr}{l:List (Bool×Ex)}{pos:Pos}:vG (R c) es l->gZ P R c (.JoinedStr es pos) (.qJ l)
 |append {x:Str}{i:Nat}{e:Expr}{xe:Ex}{pn aQ aG:Pos}:c.N[i]?=some x->jf c.sc x=true->bE x=true->R c e xe->(aQ.endLine==aG.line)=true->gZ P R c (.Call (.Attribute (.Name x pn) "append" aQ) [e] [] aG) (.append i xe)
 |extend {x:Str}{i:Nat}{e:Expr}{xe:Ex}{pn aQ aG:Pos}:c.N[i]?=some x->jf c.sc x=true->bE x=true->R c e xe->(aQ.endLine==aG.line)=true->gZ P R c (.Call (.Attribute (.Name x pn) "extend" aQ) [e] [] aG) (.extend i xe)
 |jr {x:Str}{i:Nat}{e:Expr}{xe:Ex}{pn aQ aG:Pos}:c.N[i]?=some x->jf c.sc x=true->bE x=true->R c e xe->(aQ.endLine==aG.line)=true->gZ P R c (.Call (.Attribute (.Name x pn) "pop" aQ) [e] [] aG) (.jr i xe)
noncomputable abbrev p0:Pos:=⟨0,0,0,0⟩
inductive jt(R:Expr->Ex->Prop)(fx:Str)(f ir:Nat)(ca:List Addr):List Lt->List Ex->Prop
 |nil:jt R fx f ir ca [] []
 |cons {l:Lt}{ls:List Lt}{e:Ex}{es:List Ex}:R (.Call (.Name fx p0) [l.ex] [] p0) (.ig f ir [] e)->jt R fx f ir ca ls es->jt R fx f ir ca (l::ls) (e::es)
structure Vd(c:Ct)(fx:Str)(scope:Scope)(N':List Str)(v:Str)(k j:Nat):Prop where
 lt:j<k
 bl:qL c.sc scope=true
 nm:jF c.N N' scope k=true
 nd:N'.Nodup
 ix:N'[c.N.length+j]?=some v
 st:jg ⟨N',scope,false,Str.empty⟩ v=true
 vi:jf scope v=true
 pl:bE v=true
 gl:scope.names.lookup fx=some .globalImplicit
inductive Ma(RS:Stmt->Sm->Prop)(ce:Expr):Stmt->Bool->List Sm->Prop
 |ite {s:Stmt}{x:Sm}{pos:Pos}:RS s x->Ma RS ce (.If ce [s] [] pos) false [x]
 |ret {pos:Pos}:Ma RS ce (.Return (some ce) pos) true []
inductive Mf(P:Pg)(R:Expr->Ex->Prop)(RS:Stmt->Sm->Prop)(c:Ct):List Stmt->Sm->Prop
 |mk {y v fx:Str}{ic f ir:Nat}{l:Lt}{ls:List Lt}{e:Ex}{es:List Ex}{ss:List Stmt}{st:Stmt}{scope:Scope}{N':List Str}{k j:Nat}{fV:Expr}{op:CmpOp}{rhs:Ex}{ret:Bool}{b:List Sm}{py lp pos fp vp cp tp ip Ji cmp:Pos} :
   c.N[ic]?=some y->jg c y=true->jf c.sc y=true->bE y=true->x8 y ss ls->jt R fx f ir P.gD (l::ls) (e::es)->ls.length<900->Vd c fx scope N' v k j->R fV rhs->behindInMarks op fV=false->
   Ma RS (.Compare (.ListComp (.Call (.Name fx fp) [.Name v vp] [] cp) [⟨.Name v tp,.Name y ip,[],0⟩] scope Ji) [op] [fV] cmp) st ret b->
   Mf P R RS c (.Assign [.Name y py] (.List [l.ex] lp) pos::(ss++[st])) (.calls ic (.refs f ir P.gD (e::es)) op rhs ret b)
inductive pL(RG:List Stmt->Sm->Prop)(RS:Stmt->Sm->Prop):List Stmt->List Sm->Prop
 |nil:pL RG RS [] []
 |grp {ss rest:List Stmt}{x:Sm}{xs:List Sm}:RG ss x->pL RG RS rest xs->pL RG RS (ss++rest) (x::xs)
 |cons {s:Stmt}{ss:List Stmt}{x:Sm}{xs:List Sm}:RS s x->pL RG RS ss xs->pL RG RS (s::ss) (x::xs)
inductive jH(P:Pg)(R:Expr->Ex->Prop)(RS:Stmt->Sm->Prop)(c:Ct):Stmt->Sm->Prop
 |ret {e:Expr}{x:Ex}{pos:Pos}:R e x->jH P R RS c (.Return (some e) pos) (.ret x)
 |expr {e:Expr}{x:Ex}{pos:Pos}:R e x->(∀a b s p,e≠.ListComp a b s p)->jH P R RS c (.Expr e pos) (.expr x)
 |set {y:Str}{i:Nat}{e:Expr}{x:Ex}{py pos:Pos}:c.N[i]?=some y->jg c y=true->R e x->(∀a b s p,e=.ListComp a b s p->Vc c y py p s=false)->jH P R RS c (.Assign [.Name y py] e pos) (.set i x)
 |setC {y:Str}{i:Nat}{a:Expr}{b:List Comprehension}{s:Scope}{p:Pos}{n kk:Nat}{T:Tg}{it:Ex}{co:Option Ex}{x:Ex}{py pos:Pos}:c.N[i]?=some y->Vc c y py p s=true->R (.ListComp a b s p) (.comp n kk T it co x)->jH P R RS c (.Assign [.Name y py] (.ListComp a b s p) pos) (.setC i (.comp n kk T it co x))
 |tgt {es:List Expr}{k:Nat}{pt pos:Pos}{T:Tg}{e:Expr}{x:Ex}:Ls c (.Tuple es k pt) T->R e x->(∀vs k p,e≠.Tuple vs k p)\/GR c es e=true->(∀a b s p,e≠.ListComp a b s p)->jH P R RS c (.Assign [.Tuple es k pt] e pos) (.tgt T x)
 |item {y:Str}{i:Nat}{ix e:Expr}{xj x:Ex}{pn bM pos:Pos}:c.N[i]?=some y->jf c.sc y=true->bE y=true->R ix xj->R e x->(∀a b s p,e≠.ListComp a b s p)->jH P R RS c (.Assign [.Subscript (.Name y pn) ix bM] e pos) (.item i xj x)
 |par {x y:Str}{i j:Nat}{a b:Expr}{xa xb:Ex}{px py pt wU pos:Pos}{kt k2:Nat}:c.N[i]?=some x->c.N[j]?=some y->i≠j->Lv c x y px py a b=true->R a xa->R b xb->jH P R RS c (.Assign [.Tuple [.Name x px,.Name y py] kt pt] (.Tuple [a,b] k2 wU) pos) (.par i j xa xb)
 |items2 {x y:Str}{i j:Nat}{ix iy e:Expr}{xi yi xe:Ex}{pn Ds bM gY pt pos:Pos}{kt:Nat}:c.N[i]?=some x->jf c.sc x=true->bE x=true->c.N[j]?=some y->jf c.sc y=true->bE y=true->R ix xi->R iy yi->R e xe->(∀a b s p,e≠.ListComp a b s p)->jH P R RS c (.Assign [.Tuple [.Subscript (.Name x pn) ix bM,.Subscript (.Name y Ds) iy gY] kt pt] e pos) (.items2 i xi j yi xe)
 |ite {t:Expr}{a b:List Stmt}{xt:Ex}{xa xb:List Sm}{pos:Pos}:R t xt->pL (Mf P R RS c) RS a xa->pL (Mf P R RS c) RS b xb->jH P R RS c (.If t a b pos) (.ite xt xa xb)
 |loop {tg iter:Expr}{T:Tg}{it:Ex}{b:List Stmt}{xb:List Sm}{pos:Pos}:Ls c tg T->qM P R c iter it->pL (Mf P R RS c) RS b xb->jH P R RS c (.For tg iter b [] pos) (.loop T it xb)
 |while {t:Expr}{xt:Ex}{b:List Stmt}{xb:List Sm}{pos:Pos}:R t xt->pL (Mf P R RS c) RS b xb->jH P R RS c (.While t b [] pos) (.while xt xb)
 |raise {x:Str}{ci:Nat}{m:Expr}{xm:Ex}{np aG pos:Pos}:P.cls[ci]?=some x->c.sc.names.lookup x=some .globalImplicit->R m xm->jH P R RS c (.Raise (some (.Call (.Name x np) [m] [] aG)) none pos) (.raise ci xm)
 |stuck {s:Stmt}:jH P R RS c s .stuck
theorem aj{a b:Bool}(h:(a&&b)=true):a=true/\b=true:=by cases a <;> cases b <;> first |exact⟨rfl,rfl⟩ |cases h
theorem dec{p:Prop} [Decidable p] (h:decide p=true):p:=aaH h
noncomputable def Oe(c:Ct)(x:Str):Bool:=decide (c.sc.names.lookup x=some .globalImplicit)
noncomputable def Ci(P:Pg)(c:Ct)(x:Str):Bool:=P.bn.contains x&&Oe c x
theorem bS{P:Pg}{c:Ct}{x:Str}(h:Ci P c x=true):x∈P.bn/\c.sc.names.lookup x=some .globalImplicit:=⟨acw.mp (aj h).1,dec (aj h).2⟩
noncomputable def tV(c:Ct)(i:Nat)(y:Str):Bool:=decide (c.N[i]?=some y)&&(jf c.sc y&&bE y)
noncomputable def Xw(c:Ct)(i:Nat)(y:Str):Bool:=decide (c.N[i]?=some y)&&jg c y
noncomputable def bang(x:Str):Str:=⟨x.cps.push 33⟩
noncomputable def Xx(n:Nat):Str:=⟨(List.replicate n 33).toArray⟩
noncomputable def iJ(scope:Scope):List Str:=scope.names.filterMap λy=>if y.2==.local then some y.1 else none
noncomputable def fJ(N:List Str)(scope:Scope):List Str:=(N.map λy=>if scope.names.lookup y==some .local then bang y else y)++iJ scope++[Xx (N.length+1)]
noncomputable def lM:List Str->Bool
 | []=>true
 |x::l=>!l.contains x&&lM l
theorem lN:∀{l:List Str},lM l=true->l.Nodup
 | [],_=>abg
 |x::l,h=>by
  have h:(!l.contains x&&lM l)=true:=h
  refine aay.mpr ⟨λhm=>?_,lN (aj h).2⟩
  have:=(aj h).1
  rw[acw.mpr hm]at this
  cases this
noncomputable def bx(e:Expr)(k:Str->Bool):Bool:=match e with |.Name x _=>k x |_=>false
theorem aO{e:Expr}{k:Str->Bool}(h:bx e k=true):∃x p,e=.Name x p/\k x=true:=by
 cases e
 case Name x p=>exact⟨x,p,rfl,h⟩
 all_goals exact nt h
noncomputable def G5(e:Expr)(k:Expr->Operator->Expr->Bool):Bool:=match e with |.BinOp a op b _=>k a op b |_=>false
theorem vJ{e:Expr}{k:Expr->Operator->Expr->Bool}(h:G5 e k=true):∃a op b p,e=.BinOp a op b p/\k a op b=true:=by
 cases e
 case BinOp a op b p=>exact⟨a,op,b,p,rfl,h⟩
 all_goals exact nt h
noncomputable def zL(e:Expr)(k:Expr->List CmpOp->List Expr->Bool):Bool:=match e with |.Compare a op b _=>k a op b |_=>false
theorem pM{e:Expr}{k:Expr->List CmpOp->List Expr->Bool}(h:zL e k=true):∃a op b p,e=.Compare a op b p/\k a op b=true:=by
 cases e
 case Compare a op b p=>exact⟨a,op,b,p,rfl,h⟩
 all_goals exact nt h
noncomputable def Sh(e:Expr)(k:UnaryOp->Expr->Bool):Bool:=match e with |.UnaryOp op a _=>k op a |_=>false
theorem zM{e:Expr}{k:UnaryOp->Expr->Bool}(h:Sh e k=true):∃op a p,e=.UnaryOp op a p/\k op a=true:=by
 cases e
 case UnaryOp op a p=>exact⟨op,a,p,rfl,h⟩
 all_goals exact nt h
noncomputable def yh(e:Expr)(k:BoolOp->List Expr->Bool):Bool:=match e with |.BoolOp op a _=>k op a |_=>false
theorem rQ{e:Expr}{k:BoolOp->List Expr->Bool}(h:yh e k=true):∃op a p,e=.BoolOp op a p/\k op a=true:=by
 cases e
 case BoolOp op a p=>exact⟨op,a,p,rfl,h⟩
 all_goals exact nt h
noncomputable def Xy(e:Expr)(k:Expr->Expr->Expr->Bool):Bool:=match e with |.IfExp t a b _=>k t a b |_=>false
theorem Mg{e:Expr}{k:Expr->Expr->Expr->Bool}(h:Xy e k=true):∃t a b p,e=.IfExp t a b p/\k t a b=true:=by
 cases e
 case IfExp t a b p=>exact⟨t,a,b,p,rfl,h⟩
 all_goals exact nt h
noncomputable def ku(e:Expr)(k:List Expr->Bool):Bool:=match e with |.Tuple es _ _=>k es |_=>false
theorem eY{e:Expr}{k:List Expr->Bool}(h:ku e k=true):∃es n p,e=.Tuple es n p/\k es=true:=by
 cases e
 case Tuple es n p=>exact⟨es,n,p,rfl,h⟩
 all_goals exact nt h
noncomputable def G6(e:Expr)(k:List Expr->Bool):Bool:=match e with |.List es _=>k es |_=>false
theorem vK{e:Expr}{k:List Expr->Bool}(h:G6 e k=true):∃es p,e=.List es p/\k es=true:=by
 cases e
 case List es p=>exact⟨es,p,rfl,h⟩
 all_goals exact nt h
noncomputable def pN(e:Expr)(k:Expr->Expr->Bool):Bool:=match e with |.Subscript a b _=>k a b |_=>false
theorem fW{e:Expr}{k:Expr->Expr->Bool}(h:pN e k=true):∃a b p,e=.Subscript a b p/\k a b=true:=by
 cases e
 case Subscript a b p=>exact⟨a,b,p,rfl,h⟩
 all_goals exact nt h
noncomputable def zO(e:Expr)(k:Option Expr->Option Expr->Option Expr->Bool):Bool:=match e with |.Slice a b s _=>k a b s |_=>false
theorem yj{e:Expr}{k:Option Expr->Option Expr->Option Expr->Bool}(h:zO e k=true):∃a b s p,e=.Slice a b s p/\k a b s=true:=by
 cases e
 case Slice a b s p=>exact⟨a,b,s,p,rfl,h⟩
 all_goals exact nt h
noncomputable def G7(e:Expr)(k:List Expr->Bool):Bool:=match e with |.JoinedStr es _=>k es |_=>false
theorem Cj{e:Expr}{k:List Expr->Bool}(h:G7 e k=true):∃es p,e=.JoinedStr es p/\k es=true:=by
 cases e
 case JoinedStr es p=>exact⟨es,p,rfl,h⟩
 all_goals exact nt h
noncomputable def lO(e:Expr)(k:Expr->List Comprehension->Scope->Pos->Bool):Bool:=match e with |.ListComp a b s p=>k a b s p |_=>false
theorem lP{e:Expr}{k:Expr->List Comprehension->Scope->Pos->Bool}(h:lO e k=true):∃a b s p,e=.ListComp a b s p/\k a b s p=true:=by
 cases e
 case ListComp a b s p=>exact⟨a,b,s,p,rfl,h⟩
 all_goals exact nt h
noncomputable def G8(e:Expr)(k:Expr->List Expr->List Keyword->Pos->Bool):Bool:=match e with |.Call f es ks p=>k f es ks p |_=>false
theorem vL{e:Expr}{k:Expr->List Expr->List Keyword->Pos->Bool}(h:G8 e k=true):∃f es ks p,e=.Call f es ks p/\k f es ks p=true:=by
 cases e
 case Call f es ks p=>exact⟨f,es,ks,p,rfl,h⟩
 all_goals exact nt h
noncomputable def G9(e:Expr)(k:Expr->Str->Pos->Bool):Bool:=match e with |.Attribute o m p=>k o m p |_=>false
theorem Ck{e:Expr}{k:Expr->Str->Pos->Bool}(h:G9 e k=true):∃o m p,e=.Attribute o m p/\k o m p=true:=by
 cases e
 case Attribute o m p=>exact⟨o,m,p,rfl,h⟩
 all_goals exact nt h
theorem iK{α:Type}{l:List α}(h:l.isEmpty=true):l=[]:=by cases l with |nil=>rfl |cons _ _=>cases h
noncomputable def bH(e:Expr)(k:Str->List Expr->Bool):Bool:=G8 e λf es ks _=>ks.isEmpty&&bx f λx=>k x es
theorem aY{e:Expr}{k:Str->List Expr->Bool}(h:bH e k=true):∃x es p pos,e=.Call (.Name x p) es [] pos/\k x es=true:=by
 obtain⟨f,es,ks,pos,y,i⟩:=vL h;clear h;subst y;revert i;intro h
 obtain⟨x,p,rfl,h2⟩:=aO (aj h).2
 rw[iK (aj h).1]
 exact⟨x,es,p,pos,rfl,h2⟩
noncomputable def jI(e:Expr)(k:Expr->Str->List Expr->Bool):Bool:=G8 e λf es ks aG=>ks.isEmpty&&G9 f λo m aQ=>aQ.endLine==aG.line&&k o m es
theorem fX{e:Expr}{k:Expr->Str->List Expr->Bool}(h:jI e k=true):∃o m aQ es aG,e=.Call (.Attribute o m aQ) es [] aG/\(aQ.endLine==aG.line)=true/\k o m es=true:=by
 obtain⟨f,es,ks,aG,y,i⟩:=vL h;clear h;subst y;revert i;intro h
 obtain⟨o,m,aQ,rfl,h2⟩:=Ck (aj h).2
 rw[iK (aj h).1]
 exact⟨o,m,aQ,es,aG,rfl,(aj h2).1,(aj h2).2⟩
section
variable{R:Expr->Ex->Prop}{f:Expr->Ex->Bool}(hf:∀e x,f e x=true->R e x)
include hf
noncomputable def lB(f:Expr->Ex->Bool):List Expr->List Ex->Bool
 | [],[]=>true
 |e::es,x::xs=>f e x&&lB f es xs
 |_,_=>false
theorem ju{es:List Expr}{xs:List Ex}(h:lB f es xs=true):jG R es xs:=by
 induction es generalizing xs with
 |nil=>cases xs with |nil=>exact .nil |cons _ _=>cases h
 |cons e es ih=>cases xs with
  |nil=>cases h
  |cons x xs=>
   have h:(f e x&&lB f es xs)=true:=h
   exact .cons (hf _ _ (aj h).1) (ih (aj h).2)
theorem tW{es:List Expr}{x:Ex}(h:lB f es [x]=true):∃a,es=[a]/\R a x:=by
 cases ju hf h with
 |cons h1 h2=>cases h2;exact⟨_,rfl,h1⟩
theorem Xz{es:List Expr}{x y:Ex}(h:lB f es [x,y]=true):∃a b,es=[a,b]/\R a x/\R b y:=by
 cases ju hf h with
 |cons h1 h2=>cases h2 with |cons h4 h5=>cases h5;exact⟨_,_,rfl,h1,h4⟩
noncomputable def oB(f:Expr->Ex->Bool)(e:Option Expr)(x:Option Ex):Bool:=match e with
 |none=>x.isNone
 |some e=>match x with |some x=>f e x |none=>false
theorem Og{e:Option Expr}{x:Option Ex}(h:oB f e x=true):Cd R e x:=by
 cases e <;> cases x
 .
  exact .none
 .
  cases h
 .
  cases h
 .
  exact .some (hf _ _ h)
noncomputable def ifB(f:Expr->Ex->Bool)(es:List Expr)(x:Option Ex):Bool:=match x with
 |none=>es.isEmpty
 |some x=>lB f es [x]
theorem Si{es:List Expr}{x:Option Ex}(h:ifB f es x=true):vH R es x:=by
 cases x with
 |none=>rw[iK h];exact .none
 |some x=>obtain⟨a,rfl,h1⟩:=tW hf h;exact .some h1
noncomputable def Sj(e:Expr)(x:Ex):Bool:=match e with
 |.Constant k _ _=>(match k with |.str y=>(match x with |.val d=>(match d with |.str y'=>decide (y=y') |_=>false) |_=>false) |_=>false)
 |_=>false
omit hf in
theorem Mh(h:Sj e x=true):∃y j p,e=.Constant (.str y) j p/\x=.val (.str y):=by
 cases e
 case Constant k j p=>
  cases k
  case str y=>
   cases x
   case val d=>
    cases d
    case str y'=>obtain rfl:y=y':=dec h;exact⟨y,j,p,rfl,rfl⟩
    all_goals exact nt h
   all_goals exact nt h
  all_goals exact nt h
 all_goals exact nt h
noncomputable def Sl(f:Expr->Ex->Bool)(e:Expr)(x:Ex):Bool:=match e with |.FormattedValue v j o _=>decide (j = -1)&&(o.isNone&&f v x) |_=>false
theorem Mi(h:Sl f e x=true):∃v p,e=.FormattedValue v (-1) none p/\R v x:=by
 cases e
 case FormattedValue v j o p=>
  have h:(decide (j = -1)&&(o.isNone&&f v x))=true:=h
  obtain⟨h1,h2⟩:=aj h
  obtain rfl:=dec h1
  obtain rfl:o=none:=by cases o with |none=>rfl |some _=>cases (aj h2).1
  exact⟨v,p,rfl,hf _ _ (aj h2).2⟩
 all_goals exact nt h
noncomputable def fB(f:Expr->Ex->Bool):List Expr->List (Bool×Ex)->Bool
 | [],[]=>true
 |e::es,p::l=>(if p.1 then Sl f e p.2 else Sj e p.2)&&fB f es l
 |_,_=>false
theorem XC{es:List Expr}{l:List (Bool×Ex)}(h:fB f es l=true):vG R es l:=by
 induction es generalizing l with
 |nil=>cases l with |nil=>exact .nil |cons _ _=>cases h
 |cons e es ih=>cases l with
  |nil=>cases h
  |cons p l=>
   obtain⟨b,x⟩:=p
   have h:((if b=true then Sl f e x else Sj e x)&&fB f es l)=true:=h
   obtain⟨h1,h2⟩:=aj h
   cases b with
   |true=>obtain⟨v,p,rfl,h3⟩:=Mi hf h1;exact .fmt h3 (ih h2)
   |false=>obtain⟨y,j,p,rfl,rfl⟩:=Mh h1;exact .con (ih h2)
noncomputable def iB(P:Pg)(c:Ct)(f:Expr->Ex->Bool)(e:Expr)(x:Ex):Bool:=match x with
 |.dN a=>bH e λy es=>decide (y=("range" : Str))&&(Ci P c y&&lB f es [a])
 |.jd a b=>bH e λy es=>decide (y=("range" : Str))&&(Ci P c y&&lB f es [a,b])
 |.qI a b s=>bH e λy es=>decide (y=("range" : Str))&&(Ci P c y&&lB f es [a,b,s])
 |.zip a b=>bH e λy es=>decide (y=("zip" : Str))&&(Ci P c y&&lB f es [a,b])
 |x=>f e x
theorem Oh{P:Pg}{c:Ct}{e:Expr}{x:Ex}(h:iB P c f e x=true):qM P R c e x:=by
 cases x
 case dN a=>
  obtain⟨y,es,p,pos,y,i⟩:=aY h;clear h;subst y;revert i;intro h
  obtain⟨h1,h2⟩:=aj h
  obtain rfl:=dec h1
  obtain⟨q1,q2⟩:=bS (aj h2).1
  obtain⟨a',rfl,h3⟩:=tW hf (aj h2).2
  exact .dN h3 q1 q2
 case jd a b=>
  obtain⟨y,es,p,pos,y,i⟩:=aY h;clear h;subst y;revert i;intro h
  obtain⟨h1,h2⟩:=aj h
  obtain rfl:=dec h1
  obtain⟨q1,q2⟩:=bS (aj h2).1
  obtain⟨a',b',rfl,h3,h4⟩:=Xz hf (aj h2).2
  exact .jd h3 h4 q1 q2
 case qI a b s=>
  obtain⟨y,es,p,pos,y,i⟩:=aY h;clear h;subst y;revert i;intro h
  obtain⟨h1,h2⟩:=aj h
  obtain rfl:=dec h1
  obtain⟨q1,q2⟩:=bS (aj h2).1
  cases ju hf (aj h2).2 with
  |cons h3 h4=>cases h4 with |cons h5 h6=>cases h6 with |cons h7 h8=>cases h8;exact .qI h3 h5 h7 q1 q2
 case zip a b=>
  obtain⟨y,es,p,pos,y,i⟩:=aY h;clear h;subst y;revert i;intro h
  obtain⟨h1,h2⟩:=aj h
  obtain rfl:=dec h1
  obtain⟨q1,q2⟩:=bS (aj h2).1
  obtain⟨a',b',rfl,h3,h4⟩:=Xz hf (aj h2).2
  exact .zip h3 h4 q1 q2
 all_goals exact .seq (hf _ _ h)
end
noncomputable def tyB(P:Pg)(c:Ct):List Expr->List String->Bool
 | [],[]=>true
 |e::es,n::ns=>(bx e λT=>decide (T=Str.ofString n)&&(qK.contains n&&Ci P c T))&&tyB P c es ns
 |_,_=>false
theorem Hf{P:Pg}{c:Ct}{es:List Expr}{ns:List String}(h:tyB P c es ns=true):yg P c es ns:=by
 induction es generalizing ns with
 |nil=>cases ns with |nil=>exact .nil |cons _ _=>cases h
 |cons e es ih=>cases ns with
  |nil=>cases h
  |cons n ns=>
   have h:((bx e λT=>decide (T=Str.ofString n)&&(qK.contains n&&Ci P c T))&&tyB P c es ns)=true:=h
   obtain⟨T,p,rfl,h1⟩:=aO (aj h).1
   obtain⟨q1,q2⟩:=bS (aj (aj h1).2).2
   exact .cons q1 q2 (dec (aj h1).1) (acw.mp (aj (aj h1).2).1) (ih (aj h).2)
noncomputable def Y9(c:Ct):List Expr->List Nat->Bool
 | [],[]=>true
 |e::es,i::is=>bx e (Xw c i)&&Y9 c es is
 |_,_=>false
theorem Sq(h:Y9 c es is=true):Cb c es is:=by
 induction es generalizing is with
 |nil=>cases is with |nil=>exact .nil |cons _ _=>cases h
 |cons e es ih=>cases is with
  |nil=>cases h
  |cons i is=>
   have h:(bx e (Xw c i)&&Y9 c es is)=true:=h
   obtain⟨x,p,rfl,h1⟩:=aO (aj h).1
   exact .cons (dec (aj h1).1) (aj h1).2 (ih (aj h).2)
noncomputable def XD(c:Ct)(e:Expr)(T:Tg):Bool:=match T with
 |.nm i=>bx e (Xw c i)
 |.tp is=>ku e λes=>Y9 c es is
theorem ym{c:Ct}{e:Expr}{T:Tg}(h:XD c e T=true):Ls c e T:=by
 cases T with
 |nm i=>obtain⟨x,p,rfl,h1⟩:=aO h;exact .nm (dec (aj h1).1) (aj h1).2
 |tp is=>obtain⟨es,n,p,rfl,h1⟩:=eY h;exact .tp (Sq h1)
noncomputable def Ss(e:Expr)(d:D):Bool:=match e with
 |.Constant k _ _=>(match k with
  |.int i=>(match d with |.int j=>decide (i=j) |_=>false)
  |.bool i=>(match d with |.bl j=>decide (i=j) |_=>false)
  |.none=>(match d with |.non=>true |_=>false)
  |.str i=>(match d with |.str j=>decide (i=j) |_=>false)
  |_=>false)
 |_=>false
theorem Mj{P:Pg}{R:Ct->Expr->Ex->Prop}{c:Ct}{e:Expr}{d:D}(h:Ss e d=true):gZ P R c e (.val d):=by
 cases e
 case Constant k j p=>
  cases k
  case int i=>
   cases d
   case int j=>obtain rfl:i=j:=dec h;exact .int
   all_goals exact nt h
  case bool i=>
   cases d
   case bl j=>obtain rfl:i=j:=dec h;exact .bool
   all_goals exact nt h
  case none=>
   cases d
   case non=>exact .none
   all_goals exact nt h
  case str i=>
   cases d
   case str j=>obtain rfl:i=j:=dec h;exact .str
   all_goals exact nt h
  all_goals exact nt h
 all_goals exact nt h
noncomputable def Sv(a b:D):Bool:=match a with |.int i=>(match b with |.int j=>decide (i=j) |_=>false) |_=>false
theorem Mk(h:Sv a b=true):a=b:=by
 cases a with
 |int i=>cases b with
  |int j=>exact congrArg D.int (dec (show decide (i=j)=true from h))
  |_=>exact nt h
 |_=>exact nt h
noncomputable def XF(y:Str)(d:D):List (Str×D)->Bool
 | []=>false
 |p::l=>(decide (p.1=y)&&Sv p.2 d)||XF y d l
theorem Sw{y:Str}{d:D}{l:List (Str×D)}(h:XF y d l=true):(y,d)∈l:=by
 induction l with
 |nil=>cases h
 |cons p l ih=>
  obtain⟨x,d'⟩:=p
  have hh:((decide (x=y)&&Sv d' d)||XF y d l)=true:=h
  rcases abu _ _▸hh with h |h
  .
   obtain⟨h1,h2⟩:=aj h
   obtain rfl:=dec h1
   rw[Mk h2]
   exact aah
  .
   exact aaf _ (ih h)
noncomputable def Za(P:Pg)(i:Nat)(y:Str):Bool:=match P.fn[i]? with |some g=>decide (g.name=y) |none=>false
theorem Hg{P:Pg}{i:Nat}{y:Str}(h:Za P i y=true):∃fi,P.fn[i]?=some fi/\fi.name=y:=by
 unfold Za at h
 cases e:P.fn[i]? with
 |none=>rw[e]at h;cases h
 |some g=>rw[e]at h;exact⟨g,rfl,dec h⟩
noncomputable def pP(e:Expr):Bool:=!lO e λ_ _ _ _=>true
theorem iS{e:Expr}(h:pP e=true):∀a b s p,e≠.ListComp a b s p:=by
 rintro a b s p rfl
 cases h
noncomputable def Oi(e:Expr):Bool:=!ku e λ_=>true
theorem Hi{e:Expr}(h:Oi e=true):∀vs k p,e≠.Tuple vs k p:=by
 rintro a b s rfl
 cases h
noncomputable def XH(P:Pg)(f:Ct->Expr->Ex->Bool)(c:Ct)(e:Expr)(n k:Nat)(T:Tg)(it:Ex)(co:Option Ex)(xe:Ex):Bool:=lO e λdI gs scope _=>match gs with
 | [⟨tg,iter,ifs,a⟩]=>decide (a=0)&&(decide (n=c.N.length)&&(qL c.sc scope&&(jF c.N (fJ c.N scope) scope k&&(lM (fJ c.N scope)&&(XD ⟨fJ c.N scope,scope,false,Str.empty⟩ tg T&&((T.ix.all λi=>decide (c.N.length<=i)&&decide (i<c.N.length+k)) &&
   (iB P c (f c) iter it&&(ifB (f ⟨fJ c.N scope,scope,false,Str.empty⟩) ifs co&&f ⟨fJ c.N scope,scope,false,Str.empty⟩ dI xe))))))))
 |_=>false
noncomputable def cm1(P:Pg)(f:Ct->Expr->Ex->Bool)(c:Ct)(e:Expr)(x:Ex):Bool:=match x with
 |.val d=>Ss e d||bx e λy=>Oe c y&&XF y d P.ct
 |.slot i=>bx e (tV c i)
 |.bin op a b=>G5 e λa' op' b'=>decide (op'=op)&&(f c a' a&&f c b' b)
 |.cmp op a b=>zL e λa' ops bs=>decide (ops=[op])&&(f c a' a&&(lB (f c) bs [b]&&bs.all λb=>!behindInMarks op b))
 |.chain a ops xs=>zL e λa' ops' bs=>decide (ops'=ops)&&(f c a' a&&(lB (f c) bs xs&&(!lastMarks ops bs&&(decide (2<=ops.length)&&decide (2<=bs.length)))))
 |.neg a=>Sh e λop a'=>(match op with |.USub=>true |_=>false)&&f c a' a
 |.not a=>Sh e λop a'=>(match op with |.Not=>true |_=>false)&&f c a' a
 |.and xs=>yh e λop es=>(match op with |.And=>true |_=>false)&&lB (f c) es xs
 |.or xs=>yh e λop es=>(match op with |.Or=>true |_=>false)&&lB (f c) es xs
 |.ite t a b=>Xy e λt' a' b'=>f c t' t&&(f c a' a&&f c b' b)
 |.tup xs=>ku e λes=>lB (f c) es xs
 |.lst xs=>G6 e λes=>lB (f c) es xs
 |.ix a b=>pN e λa' b'=>f c a' a&&f c b' b
 |.slice a lo hi=>pN e λa' b'=>f c a' a&&zO b' λl h s=>oB (f c) l lo&&(oB (f c) h hi&&s.isNone)
 |.call i xs=>bH e λy es=>Za P i y&&(Oe c y&&(lB (f c) es xs&&!es.isEmpty))
 |.blt b xs=>bH e λy es=>decide ((Y8 b).1=y)&&(Ci P c y&&(lB (f c) es xs&&!es.isEmpty))
 |.qH a n=>bH e λy es=>decide (y=("isinstance" : Str))&&(Ci P c y&&(match es with | [a',t]=>f c a' a&&tyB P c [t] [n] |_=>false))
 |.tN a ns=>bH e λy es=>decide (y=("isinstance" : Str))&&(Ci P c y&&(match es with | [a',t]=>f c a' a&&(ku t (λts=>tyB P c ts ns)&&decide (ns.length<=100)) |_=>false))
 |.comp n k T it co xe=>XH P f c e n k T it co xe
 |.rev a=>pN e λa' b'=>f c a' a&&Se b'
 |.emp=>Sf e
 |.peek xe=>bH e (λ_ es=>!es.isEmpty)&&f c e xe
 |.stk=>G5 e λ_ _ _=>true
 |.tQ a l=>bH e λy es=>decide (y=("isinstance" : Str))&&(Ci P c y&&(match es with | [a',t]=>f c a' a&&bx t (λT=>Oe c T&&decide ((T,l)∈P.ups)) |_=>false))
 |.ig i ir ca xb=>bH e λy es=>Za P i y&&((decide (ca=P.gD)&&Oe c y||ca.isEmpty)&&((decide (c.q = "_law_refusals_right")&&P.lam)&&((match P.fn[i]? with |some fi=>G0 fi ir P.kt |none=>false)&&G3 es λparams body scope=>qL c.sc scope&&(Ce params scope&&f ⟨c.N,scope,false,Str.empty⟩ body xb))))
 |.d7 a=>bH e λy es=>decide (y=("list" : Str))&&(Ci P c y&&(match es with | [r]=>bH r λy2 Sx=>decide (y2=("range" : Str))&&(Ci P c y2&&lB (f c) Sx [a]) |_=>false))
 |.meth m o x=>jI e λo' name es=>decide (RZ m=name)&&(f c o' o&&lB (f c) es [x])
 |.qJ l=>G7 e λes=>fB (f c) es l
 |.append i x=>jI e λo m es=>decide (m=("append" : Str))&&(bx o (tV c i)&&lB (f c) es [x])
 |.extend i x=>jI e λo m es=>decide (m=("extend" : Str))&&(bx o (tV c i)&&lB (f c) es [x])
 |.jr i x=>jI e λo m es=>decide (m=("pop" : Str))&&(bx o (tV c i)&&lB (f c) es [x])
 |_=>false
theorem vM{c:Ct}{i:Nat}{y:Str}(h:tV c i y=true):c.N[i]?=some y/\jf c.sc y=true/\bE y=true:=⟨dec (aj h).1,(aj (aj h).2).1,(aj (aj h).2).2⟩
theorem Sy{P:Pg}{c:Ct}{k:Str->List Expr->Bool}{es:List Expr}(h:(match es with | [r]=>bH r k |_=>false)=true):∃y2 Sx p rp,es=[.Call (.Name y2 p) Sx [] rp]/\k y2 Sx=true:=by
 cases es with
 |nil=>cases h
 |cons r es=>cases es with
  |nil=>
   obtain⟨y2,Sx,p,rp,rfl,h⟩:=aY (show bH r k=true from h)
   exact⟨y2,Sx,p,rp,rfl,h⟩
  |cons _ _=>cases h
theorem tX{k:Expr->Expr->Bool}{es:List Expr}(h:(match es with | [a,t]=>k a t |_=>false)=true):∃a t,es=[a,t]/\k a t=true:=by
 cases es with
 |nil=>cases h
 |cons a es=>cases es with
  |nil=>cases h
  |cons t es=>cases es with
   |nil=>exact⟨a,t,rfl,h⟩
   |cons _ _=>cases h
theorem Oj{α:Type}{l:List α}(h:(!l.isEmpty)=true):∃a t,l=a::t:=by cases l with |nil=>cases h |cons a t=>exact⟨a,t,rfl⟩
theorem pQ{b:Bool}(h:(!b)=true):b=false:=by cases b <;> first |rfl |cases h
theorem Sz{P:Pg}{R:Ct->Expr->Ex->Prop}{f:Ct->Expr->Ex->Bool}(hf:∀c e x,f c e x=true->R c e x){c:Ct}{e:Expr}{x:Ex}(h:cm1 P f c e x=true):gZ P R c e x:=by
 cases x
 case val d=>
  rcases abu _ _▸(show (Ss e d||bx e λy=>Oe c y&&XF y d P.ct)=true from h)with h |h
  .
   exact Mj h
  .
   obtain⟨y,p,rfl,h⟩:=aO h
   exact .glob (Sw (aj h).2) (dec (aj h).1)
 case slot i=>
  obtain⟨y,p,y,i⟩:=aO h;clear h;subst y;revert i;intro h
  obtain⟨h1,h2,h3⟩:=vM h
  exact .var h1 h2 h3
 case bin op a b=>
  obtain⟨a',op',b',p,y,i⟩:=vJ h;clear h;subst y;revert i;intro h
  obtain⟨h1,h2⟩:=aj h
  obtain rfl:=dec h1
  exact .bin (hf _ _ _ (aj h2).1) (hf _ _ _ (aj h2).2)
 case cmp op a b=>
  obtain⟨a',ops,bs,p,y,i⟩:=pM h;clear h;subst y;revert i;intro h
  obtain⟨h1,h2⟩:=aj h
  obtain rfl:=dec h1
  obtain⟨b',rfl,h3⟩:=tW (hf c) (aj (aj h2).2).1
  exact .cmp (hf _ _ _ (aj h2).1) h3 (pQ (aaK.mp (aj (aj h2).2).2 b' aah))
 case chain a ops xs=>
  obtain⟨a',ops',bs,p,y,i⟩:=pM h;clear h;subst y;revert i;intro h
  obtain⟨h1,h2⟩:=aj h
  obtain rfl:=dec h1
  obtain⟨h3,h4⟩:=aj h2
  obtain⟨h5,h6⟩:=aj h4
  obtain⟨h7,h8⟩:=aj h6
  have l1:=dec (aj h8).1
  have l2:=dec (aj h8).2
  have hl:=ju (hf c) h5
  have hm:=pQ h7
  match ops',l1,bs,l2,hl,hm with
  |Fp::Fq::ops,_,b1::b2::bs,_,.cons q1 (.cons q2 q3),hm=>exact .chain (hf _ _ _ h3) (.cons q1 (.cons q2 q3)) hm
 case neg a=>
  obtain⟨op,a',p,rfl,hh⟩:=zM h
  clear h
  cases op with
  |USub=>exact .neg (hf _ _ _ (aj hh).2)
  |_=>exact Bool.noConfusion (show false=true from (aj hh).1)
 case not a=>
  obtain⟨op,a',p,rfl,hh⟩:=zM h
  clear h
  cases op with
  |Not=>exact .not (hf _ _ _ (aj hh).2)
  |_=>exact Bool.noConfusion (show false=true from (aj hh).1)
 case and xs=>
  obtain⟨op,a',p,rfl,hh⟩:=rQ h
  clear h
  cases op with
  |And=>exact .and (ju (hf c) (aj hh).2)
  |_=>exact Bool.noConfusion (show false=true from (aj hh).1)
 case or xs=>
  obtain⟨op,a',p,rfl,hh⟩:=rQ h
  clear h
  cases op with
  |Or=>exact .or (ju (hf c) (aj hh).2)
  |_=>exact Bool.noConfusion (show false=true from (aj hh).1)
 case ite t a b=>
  obtain⟨t',a',b',p,y,i⟩:=Mg h;clear h;subst y;revert i;intro h
  exact .ite (hf _ _ _ (aj h).1) (hf _ _ _ (aj (aj h).2).1) (hf _ _ _ (aj (aj h).2).2)
 case tup xs=>obtain⟨es,n,p,rfl,h⟩:=eY h;exact .tup (ju (hf c) h)
 case lst xs=>obtain⟨es,p,rfl,h⟩:=vK h;exact .lst (ju (hf c) h)
 case ix a b=>obtain⟨a',b',p,rfl,h⟩:=fW h;exact .ix (hf _ _ _ (aj h).1) (hf _ _ _ (aj h).2)
 case slice a lo hi=>
  obtain⟨a',b',p,y,i⟩:=fW h;clear h;subst y;revert i;intro h
  obtain⟨l,hh,s,p2,rfl,h2⟩:=yj (aj h).2
  obtain⟨h3,h4⟩:=aj h2
  obtain rfl:s=none:=by cases s with |none=>rfl |some _=>cases (aj h4).2
  exact .slice (hf _ _ _ (aj h).1) (Og (hf c) h3) (Og (hf c) (aj h4).1)
 case call i xs=>
  obtain⟨y,es,p,pos,y,i⟩:=aY h;clear h;subst y;revert i;intro h
  obtain⟨h1,h2⟩:=aj h
  obtain⟨h3,h4⟩:=aj h2
  obtain⟨fi,q1,q2⟩:=Hg h1
  obtain⟨e0,et,rfl⟩:=Oj (aj h4).2
  exact .call q1 q2 (dec h3) (ju (hf c) (aj h4).1)
 case blt b xs=>
  obtain⟨y,es,p,pos,y,i⟩:=aY h;clear h;subst y;revert i;intro h
  obtain⟨h1,h2⟩:=aj h
  obtain⟨h3,h4⟩:=aj h2
  obtain⟨e0,et,rfl⟩:=Oj (aj h4).2
  exact .blt (dec h1) (bS h3).1 (bS h3).2 (ju (hf c) (aj h4).1)
 case qH a n=>
  obtain⟨y,es,p,pos,y,i⟩:=aY h;clear h;subst y;revert i;intro h
  obtain⟨h1,h2⟩:=aj h
  obtain rfl:=dec h1
  obtain⟨a',t,rfl,h3⟩:=tX (aj h2).2
  have q:=Hf (aj h3).2
  cases q with
  |cons q1 q2 q3 q4 _=>exact .qH (hf _ _ _ (aj h3).1) (bS (aj h2).1).1 (bS (aj h2).1).2 q1 q2 q3 q4
 case tN a ns=>
  obtain⟨y,es,p,pos,y,i⟩:=aY h;clear h;subst y;revert i;intro h
  obtain⟨h1,h2⟩:=aj h
  obtain rfl:=dec h1
  obtain⟨a',t,rfl,h3⟩:=tX (aj h2).2
  obtain⟨h4,h5⟩:=aj h3
  obtain⟨ts,n,pt,rfl,h6⟩:=eY (aj h5).1
  exact .tN (hf _ _ _ h4) (bS (aj h2).1).1 (bS (aj h2).1).2 (dec (aj h5).2) (Hf h6)
 case rev a=>
  obtain⟨a',b',p,y,i⟩:=fW h;clear h;subst y;revert i;intro h
  obtain⟨j,p1,p2,p3,rfl⟩:=L7 (aj h).2
  exact .rev (hf _ _ _ (aj h).1)
 case emp=>obtain⟨p,rfl⟩:=L8 h;exact .emp
 case peek xe=>
  obtain⟨h1,h2⟩:=aj h
  obtain⟨y,es,p,pos,rfl,h3⟩:=aY h1
  cases es with
  |nil=>cases h3
  |cons e es=>exact .peek (hf _ _ _ h2)
 case stk=>obtain⟨a,op,b,p,rfl,_⟩:=vJ h;exact .stk
 case tQ a l=>
  obtain⟨y,es,p,pos,y,i⟩:=aY h;clear h;subst y;revert i;intro h
  obtain⟨h1,h2⟩:=aj h
  obtain rfl:=dec h1
  obtain⟨a',t,rfl,h3⟩:=tX (aj h2).2
  obtain⟨T,pT,rfl,h4⟩:=aO (aj h3).2
  exact .tQ (hf _ _ _ (aj h3).1) (bS (aj h2).1).1 (bS (aj h2).1).2 (dec (aj h4).2) (dec (aj h4).1)
 case ig i ir ca xb=>
  obtain⟨y,es,p,pos,y,i⟩:=aY h;clear h;subst y;revert i;intro h
  obtain⟨h1,k1⟩:=aj h
  obtain⟨h2,k2⟩:=aj k1
  obtain⟨h3,k3⟩:=aj k2
  obtain⟨h5,k5⟩:=aj k3
  obtain⟨fi,e1,e2⟩:=Hg h1
  rw[e1]at h5
  obtain⟨pa,b,s,lp,rfl,k6⟩:=G4 k5
  exact .ig e1 e2 ((Bool.or_eq_true_iff.mp h2).imp (λh=>⟨dec (aj h).1,dec (aj h).2⟩) iK) (dec (aj h3).1) (aj h3).2 h5 (aj k6).1 (aj (aj k6).2).1 (hf _ _ _ (aj (aj k6).2).2)
 case comp n k T it co xe=>
  obtain⟨dI,gs,scope,pos,rfl,hh⟩:=lP h
  clear h
  cases gs with
  |nil=>exact Bool.noConfusion (show false=true from hh)
  |cons g0 gs=>
   obtain⟨tg,iter,ifs,a⟩:=g0
   cases gs with
   |cons _ _=>exact Bool.noConfusion (show false=true from hh)
   |nil=>
    have h0:(decide (a=0)&&(decide (n=c.N.length)&&(qL c.sc scope&&(jF c.N (fJ c.N scope) scope k&&(lM (fJ c.N scope)&&(XD ⟨fJ c.N scope,scope,false,Str.empty⟩ tg T&&((T.ix.all λi=>decide (c.N.length<=i)&&decide (i<c.N.length+k))&&(iB P c (f c) iter it&&(ifB (f ⟨fJ c.N scope,scope,false,Str.empty⟩) ifs co&&f ⟨fJ c.N scope,scope,false,Str.empty⟩ dI xe)))))))))=true:=hh
    clear hh
    obtain⟨h1,a1⟩:=aj h0
    obtain⟨h2,a2⟩:=aj a1
    obtain⟨h3,a3⟩:=aj a2
    obtain⟨h4,a4⟩:=aj a3
    obtain⟨h5,a5⟩:=aj a4
    obtain⟨h6,a6⟩:=aj a5
    obtain⟨h7,a7⟩:=aj a6
    obtain⟨h8,a8⟩:=aj a7
    obtain⟨h9,ha⟩:=aj a8
    clear h0 a1 a2 a3 a4 a5 a6 a7 a8
    obtain rfl:=dec h1
    obtain rfl:=dec h2
    exact .comp h3 h4 (lN h5) (ym h6) (λi hi=>⟨dec (aj (aaK.mp h7 i hi)).1,dec (aj (aaK.mp h7 i hi)).2⟩) (Oh (hf c) h8) (Si (hf _) h9) (hf _ _ _ ha)
 case d7 a=>
  obtain⟨y,es,p,pos,y,i⟩:=aY h;clear h;subst y;revert i;intro h
  obtain⟨h1,h2⟩:=aj h
  obtain rfl:=dec h1
  obtain⟨y2,Sx,p2,rp,rfl,h3⟩:=Sy (P:=P) (c:=c) (aj h2).2
  obtain⟨h4,h5⟩:=aj h3
  obtain rfl:=dec h4
  obtain⟨a',rfl,h6⟩:=tW (hf c) (aj h5).2
  exact .d7 h6 (bS (aj h5).1).1 (bS (aj h5).1).2 (bS (aj h2).1).1 (bS (aj h2).1).2
 case meth m o x=>
  obtain⟨o',name,aQ,es,aG,rfl,hl,h⟩:=fX h
  obtain⟨h1,h2⟩:=aj h
  obtain⟨a',rfl,h3⟩:=tW (hf c) (aj h2).2
  exact .meth (hf _ _ _ (aj h2).1) h3 (dec h1) hl
 case qJ l=>obtain⟨es,p,rfl,h⟩:=Cj h;exact .qJ (XC (hf c) h)
 case append i x=>
  obtain⟨o',name,aQ,es,aG,rfl,hl,h⟩:=fX h
  obtain⟨h1,h2⟩:=aj h
  obtain rfl:=dec h1
  obtain⟨y,p,rfl,h3⟩:=aO (aj h2).1
  obtain⟨q1,q2,q3⟩:=vM h3
  obtain⟨a',rfl,h4⟩:=tW (hf c) (aj h2).2
  exact .append q1 q2 q3 h4 hl
 case extend i x=>
  obtain⟨o',name,aQ,es,aG,rfl,hl,h⟩:=fX h
  obtain⟨h1,h2⟩:=aj h
  obtain rfl:=dec h1
  obtain⟨y,p,rfl,h3⟩:=aO (aj h2).1
  obtain⟨q1,q2,q3⟩:=vM h3
  obtain⟨a',rfl,h4⟩:=tW (hf c) (aj h2).2
  exact .extend q1 q2 q3 h4 hl
 case jr i x=>
  obtain⟨o',name,aQ,es,aG,rfl,hl,h⟩:=fX h
  obtain⟨h1,h2⟩:=aj h
  obtain rfl:=dec h1
  obtain⟨y,p,rfl,h3⟩:=aO (aj h2).1
  obtain⟨q1,q2,q3⟩:=vM h3
  obtain⟨a',rfl,h4⟩:=tW (hf c) (aj h2).2
  exact .jr q1 q2 q3 h4 hl
 all_goals exact nt h
noncomputable def Ve(P:Pg):Nat->Ct->Expr->Ex->Bool
 | 0=>λ_ _ _=>false
 |n+1=>cm1 P (Ve P n)
noncomputable def Cm(P:Pg)(c:Ct)(e:Expr)(x:Ex):Prop:=∃n,Ve P n c e x=true
theorem Cm.out(h:Cm P c e x):gZ P (Cm P) c e x:=by
 obtain⟨n,h⟩:=h
 cases n with
 |zero=>cases h
 |succ n=>exact Sz (f:=Ve P n) (λ_ _ _ h=>⟨n,h⟩) h
noncomputable abbrev Dy (P:Pg) (c:Ct) (es:List Expr) (xs:List Ex):Prop:=jG (Cm P c) es xs
noncomputable abbrev CmF (P:Pg) (c:Ct) (es:List Expr) (l:List (Bool×Ex)):Prop:=vG (Cm P c) es l
noncomputable abbrev CmO (P:Pg) (c:Ct) (e:Option Expr) (x:Option Ex):Prop:=Cd (Cm P c) e x
noncomputable abbrev SJ (P:Pg) (c:Ct) (es:List Expr) (x:Option Ex):Prop:=vH (Cm P c) es x
noncomputable abbrev CmI (P:Pg) (c:Ct) (e:Expr) (x:Ex):Prop:=qM P (Cm P c) c e x
noncomputable def mS(s:Stmt)(k:Expr->Expr->Bool):Bool:=match s with |.Assign ts e _=>(match ts with | [t]=>k t e |_=>false) |_=>false
theorem eZ{s:Stmt}{k:Expr->Expr->Bool}(h:mS s k=true):∃t e p,s=.Assign [t] e p/\k t e=true:=by
 cases s
 case Assign ts e p=>
  cases ts with
  |nil=>cases h
  |cons t ts=>cases ts with
   |nil=>exact⟨t,e,p,rfl,h⟩
   |cons _ _=>cases h
 all_goals exact nt h
noncomputable def kB(e:Expr)(k:Str->Pos->Bool):Bool:=match e with |.Name x p=>k x p |_=>false
theorem gR{e:Expr}{k:Str->Pos->Bool}(h:kB e k=true):∃x p,e=.Name x p/\k x p=true:=by
 cases e
 case Name x p=>exact⟨x,p,rfl,h⟩
 all_goals exact nt h
noncomputable def Zb:Sm->Nat
 |.calls _ x _ _ _ _=>(match x with |.refs _ _ _ es=>es.length+1 |_=>0)
 |_=>0
noncomputable def sB(fg:List Stmt->Sm->Bool)(f:Stmt->Sm->Bool):List Stmt->List Sm->Bool
 |ss,x::xs=>if 0<Zb x then fg (ss.take (Zb x)) x&&sB fg f (ss.drop (Zb x)) xs else match ss with |s::ss=>f s x&&sB fg f ss xs | []=>false
 |ss,[]=>ss.isEmpty
theorem vN{RG:List Stmt->Sm->Prop}{RS:Stmt->Sm->Prop}{fg:List Stmt->Sm->Bool}{f:Stmt->Sm->Bool}(hg:∀ss x,fg ss x=true->RG ss x)(hf:∀e x,f e x=true->RS e x){es:List Stmt}{xs:List Sm}(h:sB fg f es xs=true):pL RG RS es xs:=by
 induction xs generalizing es with
 |nil=>
  unfold sB at h
  cases es with |nil=>exact .nil |cons _ _=>cases h
 |cons x xs ih=>
  unfold sB at h
  split at h
  .
   rw[<- acu (Zb x) es]
   exact .grp (hg _ _ (aj h).1) (ih (aj h).2)
  .
   cases es with
   |nil=>cases h
   |cons e es=>exact .cons (hf _ _ (aj h).1) (ih (aj h).2)
noncomputable def zP(e:Expr):Bool:=match e with |.Lambda _ _ _ _=>true |_=>false
theorem vO{e:Expr}(h:zP e=true):∃l:Lt,e=l.ex:=by
 cases e
 case Lambda p b s q=>exact⟨⟨p,b,s,q⟩,rfl⟩
 all_goals exact nt h
noncomputable def Hj(s:Stmt)(k:Expr->Bool):Bool:=match s with |.Expr e _=>k e |_=>false
theorem Hl{s:Stmt}{k:Expr->Bool}(h:Hj s k=true):∃e p,s=.Expr e p/\k e=true:=by
 cases s
 case Expr e p=>exact⟨e,p,rfl,h⟩
 all_goals exact nt h
noncomputable def one{α:Type}(es:List α)(k:α->Bool):Bool:=match es with | [a]=>k a |_=>false
theorem jJ{α:Type}{es:List α}{k:α->Bool}(h:one es k=true):∃a,es=[a]/\k a=true:=by
 cases es with
 |nil=>cases h
 |cons a es=>cases es with
  |nil=>exact⟨a,rfl,h⟩
  |cons _ _=>cases h
noncomputable def Zc(k:Expr->Ex->Bool)(y:Str)(kl:Stmt->Bool):List Stmt->List Ex->Bool
 |s::ss,[]=>kl s&&ss.isEmpty
 |s::ss,e::es=>(Hj s λx=>jI x λo m as=>decide (m=("append" : Str))&&(bx o (λy'=>decide (y'=y))&&one as λa=>zP a&&k a e))&&Zc k y kl ss es
 | [],_=>false
theorem SM{R:Expr->Ex->Prop}{fx:Str}{i ir:Nat}{ca:List Addr}{k:Expr->Ex->Bool}{y:Str}{kl:Stmt->Bool}(hk:∀a e,k a e=true->R (.Call (.Name fx p0) [a] [] p0) (.ig i ir [] e)){ss:List Stmt}{es:List Ex}(h:Zc k y kl ss es=true):∃ss' st ls,ss=ss'++[st]/\x8 y ss' ls/\jt R fx i ir ca ls es/\kl st=true:=by
 induction ss generalizing es with
 |nil=>cases h
 |cons s ss ih=>cases es with
  |nil=>
   obtain⟨h1,h2⟩:=aj (show (kl s&&ss.isEmpty)=true from h)
   cases ss with
   |nil=>exact⟨[],s,[],rfl,.nil,.nil,h1⟩
   |cons _ _=>cases h2
  |cons e es=>
   obtain⟨h1,h2⟩:=aj (show ((Hj s λx=>jI x λo m as=>decide (m=("append" : Str))&&(bx o (λy'=>decide (y'=y))&&one as λa=>zP a&&k a e))&&Zc k y kl ss es)=true from h)
   obtain⟨ss',st,ls,rfl,q1,q2,q3⟩:=ih h2
   obtain⟨x,p,rfl,h1⟩:=Hl h1
   obtain⟨o,m,aQ,as,aG,rfl,hl,h3⟩:=fX h1
   obtain⟨h4,h5⟩:=aj h3
   obtain⟨h6,h7⟩:=aj h5
   obtain rfl:=dec h4
   obtain⟨y',pn,rfl,h6⟩:=aO h6
   obtain rfl:=dec h6
   obtain⟨a,rfl,h8⟩:=jJ h7
   obtain⟨l,rfl⟩:=vO (aj h8).1
   exact⟨_::ss',st,l::ls,rfl,.cons hl q1,.cons (hk _ _ (aj h8).2) q2,q3⟩
noncomputable def blB(c:Ct)(y fx:Str)(e:Expr):Bool:=lO e λdI gs scope _=>bH dI (λfx' as=>decide (fx'=fx)&&one as λa=>bx a λv=>one gs λq=>bx q.target (λv'=>decide (v'=v))&&(bx q.iter (λy'=>decide (y'=y))&&(q.ifs.isEmpty&&(decide (q.is_async=0) &&
 (qL c.sc scope&&(jF c.N (fJ c.N scope) scope (iJ scope).length&&(lM (fJ c.N scope)&&(decide ((iJ scope).idxOf v<(iJ scope).length/\(fJ c.N scope)[c.N.length+(iJ scope).idxOf v]?=some v)&&(jg ⟨fJ c.N scope,scope,false,Str.empty⟩ v&&(jf scope v&&(bE v&&decide (scope.names.lookup fx=some .globalImplicit))))))))))))
theorem SN{c:Ct}{y fx:Str}{e:Expr}(h:blB c y fx e=true):∃v fp vp cp tp ip scope Ji N' k j,e=.ListComp (.Call (.Name fx fp) [.Name v vp] [] cp) [⟨.Name v tp,.Name y ip,[],0⟩] scope Ji/\Vd c fx scope N' v k j:=by
 obtain⟨dI,gs,scope,Ji,rfl,w1⟩:=lP h
 clear h
 obtain⟨fx',as,fp,cp,rfl,w2⟩:=aY w1
 clear w1
 obtain⟨h1,w3⟩:=aj w2
 clear w2
 obtain rfl:=dec h1
 obtain⟨a,rfl,w4⟩:=jJ w3
 clear w3
 obtain⟨v,vp,rfl,w5⟩:=aO w4
 clear w4
 obtain⟨q,rfl,w6⟩:=jJ w5
 clear w5
 obtain⟨tg,it,ifs,asy⟩:=q
 obtain⟨h1,w7⟩:=aj w6
 clear w6
 obtain⟨v',tp,e1,h1⟩:=aO h1
 obtain rfl:=dec h1
 obtain⟨h2,w8⟩:=aj w7
 clear w7
 obtain⟨y',ip,e2,h2⟩:=aO h2
 obtain rfl:=dec h2
 obtain⟨h3,w9⟩:=aj w8
 clear w8
 obtain⟨h4,w10⟩:=aj w9
 clear w9
 obtain⟨k1,w11⟩:=aj w10
 clear w10
 obtain⟨k2,w12⟩:=aj w11
 clear w11
 obtain⟨k3,w13⟩:=aj w12
 clear w12
 obtain⟨k4,w14⟩:=aj w13
 clear w13
 obtain⟨k5,w15⟩:=aj w14
 clear w14
 obtain⟨k6,w16⟩:=aj w15
 clear w15
 have e1:tg=_:=e1
 have e2:it=_:=e2
 have e3:ifs=[]:=by
  have h3:ifs.isEmpty=true:=h3
  cases ifs with |nil=>rfl |cons _ _=>cases h3
 have e4:asy=0:=dec h4
 subst e1 e2 e3 e4
 exact⟨_,fp,vp,cp,tp,ip,scope,Ji,_,_,_,rfl,(dec k4).1,k1,k2,lN k3,(dec k4).2,k5,k6,(aj w16).1,dec (aj w16).2⟩
noncomputable def Cp(f:Expr->Ex->Bool)(fs:Stmt->Sm->Bool)(kc:Expr->Bool)(op:CmpOp)(rhs:Ex)(ret:Bool)(b:List Sm)(s:Stmt):Bool:=match s with
 |.If t a o _=>!ret&&(cB f kc op rhs t&&(o.isEmpty&&one a λs=>one b λx=>fs s x))
 |.Return o _=>(match o with |some t=>ret&&(b.isEmpty&&cB f kc op rhs t) |none=>false)
 |_=>false
where cB (f:Expr->Ex->Bool) (kc:Expr->Bool) (op:CmpOp) (rhs:Ex) (t:Expr):Bool:=zL t λa ops bs=>decide (ops=[op])&&(kc a&&one bs λr=>f r rhs&&!behindInMarks op r)
noncomputable def two(es:List Expr)(k:Expr->Expr->Bool):Bool:=match es with | [a,t]=>k a t |_=>false
theorem yp{k:Expr->Expr->Bool}{es:List Expr}(h:two es k=true):∃a t,es=[a,t]/\k a t=true:=tX h
noncomputable def gB(P:Pg)(f:Expr->Ex->Bool)(fs:Stmt->Sm->Bool)(c:Ct)(ss:List Stmt)(x:Sm):Bool:=match x with
 |.calls ic xr op rhs ret b=>(match xr with
  |.refs i ir ca es=>(match ss with
   |s0::ss=>(match es with
    |e::es=>decide (ca=P.gD)&&mS s0 λt le=>bx t λy=>Xw c ic y&&(tV c ic y&&((G6 le λls=>one ls λl=>zP l&&f (.Call (.Name (SQ P i) p0) [l] [] p0) (.ig i ir [] e))&&(decide (es.length<900) &&
     Zc (λa e=>f (.Call (.Name (SQ P i) p0) [a] [] p0) (.ig i ir [] e)) y (Cp f fs (blB c y (SQ P i)) op rhs ret b) ss es)))
    | []=>false)
   | []=>false)
  |_=>false)
 |_=>false
where SQ (P:Pg) (i:Nat):Str:=match P.fn[i]? with |some fi=>fi.name |none=>Str.empty
theorem jt.len{R:Expr->Ex->Prop}{fx:Str}{f ir:Nat}{ca:List Addr}{ls:List Lt}{es:List Ex}(h:jt R fx f ir ca ls es):ls.length=es.length:=by
 induction h with
 |nil=>rfl
 |cons _ _ ih=>exact congrArg (· + 1) ih
theorem Ol{f:Expr->Ex->Bool}{R:Expr->Ex->Prop}(hf:∀e x,f e x=true->R e x){kc:Expr->Bool}{op:CmpOp}{rhs:Ex}{t:Expr}(h:Cp.cB f kc op rhs t=true):∃a fV p,t=.Compare a [op] [fV] p/\kc a=true/\R fV rhs/\behindInMarks op fV=false:=by
 unfold Cp.cB at h
 obtain⟨a,ops,bs,p,rfl,w1⟩:=pM h
 obtain⟨h1,w2⟩:=aj w1
 obtain rfl:=dec h1
 obtain⟨h2,w3⟩:=aj w2
 obtain⟨r,rfl,w4⟩:=jJ w3
 exact⟨a,r,p,rfl,h2,hf _ _ (aj w4).1,pQ (aj w4).2⟩
theorem Ml{f:Expr->Ex->Bool}{R:Expr->Ex->Prop}{fs:Stmt->Sm->Bool}{RS:Stmt->Sm->Prop}(hf:∀e x,f e x=true->R e x)(hs:∀s x,fs s x=true->RS s x){kc:Expr->Bool}{op:CmpOp}{rhs:Ex}{ret:Bool}{b:List Sm}{s:Stmt}(h:Cp f fs kc op rhs ret b s=true) :
  ∃a fV p,kc a=true/\R fV rhs/\behindInMarks op fV=false/\Ma RS (.Compare a [op] [fV] p) s ret b:=by
 cases s
 case If t a o p=>
  obtain⟨h1,h⟩:=aj (show (!ret&&(Cp.cB f kc op rhs t&&(o.isEmpty&&one a λs=>one b λx=>fs s x)))=true from h)
  obtain⟨h2,w1⟩:=aj h
  obtain⟨h3,w2⟩:=aj w1
  obtain⟨a',r,p',rfl,q1,q2,q3⟩:=Ol hf h2
  obtain⟨s1,rfl,w3⟩:=jJ w2
  obtain⟨x1,rfl,w4⟩:=jJ w3
  rw[iK h3,pQ h1]
  exact⟨a',r,p',q1,q2,q3,.ite (hs _ _ w4)⟩
 case Return o p=>
  cases o with
  |none=>cases h
  |some t=>
   obtain⟨h1,w1⟩:=aj (show (ret&&(b.isEmpty&&Cp.cB f kc op rhs t))=true from h)
   have w2:=(aj w1).1
   obtain⟨a',r,p',rfl,q1,q2,q3⟩:=Ol hf (aj w1).2
   rw[iK w2,h1]
   exact⟨a',r,p',q1,q2,q3,.ret⟩
 all_goals exact nt h
theorem vP{P:Pg}{f:Expr->Ex->Bool}{R:Expr->Ex->Prop}{fs:Stmt->Sm->Bool}{RS:Stmt->Sm->Prop}(hf:∀e x,f e x=true->R e x)(hs:∀s x,fs s x=true->RS s x){c:Ct}{ss:List Stmt}{x:Sm}(h:gB P f fs c ss x=true):Mf P R RS c ss x:=by
 unfold gB at h
 split at h
 .
  split at h
  .
   split at h
   .
    split at h
    .
     obtain⟨hca,w0⟩:=aj h
     clear h
     obtain rfl:=dec hca
     obtain⟨t,le,p,rfl,h⟩:=eZ w0
     obtain⟨y,py,rfl,w1⟩:=aO h
     obtain⟨h1,w2⟩:=aj w1
     obtain⟨h2,w3⟩:=aj w2
     obtain⟨h3,w4⟩:=aj w3
     obtain⟨h4,w5⟩:=aj w4
     obtain⟨lls,lp,rfl,h5⟩:=vK h3
     obtain⟨l0,rfl,h6⟩:=jJ h5
     have h7:=aj h6
     obtain⟨l,rfl⟩:=vO h7.1
     obtain⟨ss',st,ls,rfl,q1,q2,q3⟩:=SM (R:=R) (λa e w5=>hf _ _ w5) w5
     obtain⟨a,fV,p',k1,k2,k3,k4⟩:=Ml hf hs q3
     obtain⟨v,fp,vp,cp,tp,ip,scope,Ji,N',kk,jj,rfl,bl⟩:=SN k1
     obtain⟨_,v2,v3⟩:=vM h2
     exact .mk (dec (aj h1).1) (aj h1).2 v2 v3 q1 (.cons (hf _ _ h7.2) q2) (by rw[q2.len];exact dec h4) bl k2 k3 k4
    .
     cases h
   .
    cases h
  .
   cases h
 .
  cases h
noncomputable def setB(f:Expr->Ex->Bool)(c:Ct)(s:Stmt)(i:Nat)(x:Ex):Bool:=mS s λt e=>kB t λy py=>decide (c.N[i]?=some y)&&(f e x&&lO e λ_ _ s p=>Vc c y py p s)
noncomputable def sm1(P:Pg)(f:Expr->Ex->Bool)(fs:Stmt->Sm->Bool)(c:Ct)(s:Stmt)(x:Sm):Bool:=match x with
 |.ret x=>(match s with |.Return o _=>(match o with |some e=>f e x |none=>false) |_=>false)
 |.expr x=>(match s with |.Expr e _=>f e x&&pP e |_=>false)
 |.set i x=>mS s λt e=>kB t λy py=>Xw c i y&&(f e x&&!lO e λ_ _ s p=>Vc c y py p s)
 |.setC i x=>(match x with |.comp _ _ _ _ _ _=>setB f c s i x |_=>false)
 |.tgt T x=>mS s λt e=>(ku t λes=>Oi e||GR c es e)&&(XD c t T&&(f e x&&pP e))
 |.item i xj x=>mS s λt e=>pN t λb ix=>bx b (tV c i)&&(f ix xj&&(f e x&&pP e))
 |.par i j xa xb=>mS s λt e=>ku t λts=>two ts λt1 t2=>kB t1 λx px=>kB t2 λy py=>ku e λes=>two es λa b=>
   decide (c.N[i]?=some x)&&(decide (c.N[j]?=some y)&&(decide (i≠j)&&(Lv c x y px py a b&&(f a xa&&f b xb))))
 |.items2 i xi j yi xe=>mS s λt e=>ku t λts=>two ts λt1 t2=>pN t1 λb1 ix=>pN t2 λb2 iy=>bx b1 (tV c i)&&(bx b2 (tV c j)&&(f ix xi&&(f iy yi&&(f e xe&&pP e))))
 |.ite xt xa xb=>(match s with |.If t a b _=>f t xt&&(sB (gB P f fs c) fs a xa&&sB (gB P f fs c) fs b xb) |_=>false)
 |.loop T it xb=>(match s with |.For tg iter b o _=>XD c tg T&&(iB P c f iter it&&(sB (gB P f fs c) fs b xb&&o.isEmpty)) |_=>false)
 |.while xt xb=>(match s with |.While t b o _=>f t xt&&(sB (gB P f fs c) fs b xb&&o.isEmpty) |_=>false)
 |.raise ci xm=>(match s with |.Raise o o2 _=>(match o with |some e=>o2.isNone&&bH e λy es=>decide (P.cls[ci]?=some y)&&(Oe c y&&lB f es [xm]) |none=>false) |_=>false)
 |.calls _ _ _ _ _ _=>false
 |.stuck=>true
theorem SX{P:Pg}{R:Expr->Ex->Prop}{RS:Stmt->Sm->Prop}{f:Expr->Ex->Bool}{fs:Stmt->Sm->Bool}(hf:∀e x,f e x=true->R e x)(hs:∀s x,fs s x=true->RS s x){c:Ct}{s:Stmt}{x:Sm}(h:sm1 P f fs c s x=true):jH P R RS c s x:=by
 cases x
 case ret x=>
  cases s
  case Return o p=>
   cases o with
   |none=>cases h
   |some e=>exact .ret (hf _ _ h)
  all_goals exact nt h
 case expr x=>
  cases s
  case Expr e p=>exact .expr (hf _ _ (aj h).1) (iS (aj h).2)
  all_goals exact nt h
 case set i x=>
  obtain⟨t,e,p,y,i⟩:=eZ h;clear h;subst y;revert i;intro h
  obtain⟨y,py,y,i⟩:=gR h;clear h;subst y;revert i;intro h
  obtain⟨h1,h2⟩:=aj h
  exact .set (dec (aj h1).1) (aj h1).2 (hf _ _ (aj h2).1) λa b s p e=>by subst e;exact pQ (aj h2).2
 case setC i x=>
  cases x
  case comp n kk T it co xe=>
   obtain⟨t,e,p,y,i⟩:=eZ h;clear h;subst y;revert i;intro h
   obtain⟨y,py,y,i⟩:=gR h;clear h;subst y;revert i;intro h
   obtain⟨h1,h2⟩:=aj h
   obtain⟨a,b,sc,p2,rfl,h3⟩:=lP (aj h2).2
   exact .setC (dec h1) h3 (hf _ _ (aj h2).1)
  all_goals exact nt h
 case tgt T x=>
  obtain⟨t,e,p,y,i⟩:=eZ h;clear h;subst y;revert i;intro h
  obtain⟨h1,h2⟩:=aj h
  obtain⟨es,n,p2,rfl,h7⟩:=eY h1
  obtain⟨h3,h4⟩:=aj h2
  obtain⟨h5,h6⟩:=aj h4
  exact .tgt (ym h3) (hf _ _ h5) (((abu _ _).mp h7).imp Hi id) (iS h6)
 case item i xj x=>
  obtain⟨t,e,p,y,i⟩:=eZ h;clear h;subst y;revert i;intro h
  obtain⟨b,ix,p2,y,i⟩:=fW h;clear h;subst y;revert i;intro h
  obtain⟨h1,h2⟩:=aj h
  obtain⟨y,p3,rfl,h3⟩:=aO h1
  obtain⟨q1,q2,q3⟩:=vM h3
  obtain⟨h4,h5⟩:=aj h2
  exact .item q1 q2 q3 (hf _ _ h4) (hf _ _ (aj h5).1) (iS (aj h5).2)
 case par i j xa xb=>
  obtain⟨t,e,p,y,i⟩:=eZ h;clear h;subst y;revert i;intro h
  obtain⟨ts,n,p2,y,i⟩:=eY h;clear h;subst y;revert i;intro h
  obtain⟨t1,t2,rfl,h⟩:=yp h
  obtain⟨x,px,y,i⟩:=gR h;clear h;subst y;revert i;intro h
  obtain⟨y,py,y,i⟩:=gR h;clear h;subst y;revert i;intro h
  obtain⟨es,n2,p3,y,i⟩:=eY h;clear h;subst y;revert i;intro h
  obtain⟨a,b,rfl,h⟩:=yp h
  obtain⟨h1,h⟩:=aj h
  obtain⟨h2,h⟩:=aj h
  obtain⟨h3,h⟩:=aj h
  obtain⟨h4,h⟩:=aj h
  exact .par (dec h1) (dec h2) (dec h3) h4 (hf _ _ (aj h).1) (hf _ _ (aj h).2)
 case items2 i xi j yi xe=>
  obtain⟨t,e,p,y,i⟩:=eZ h;clear h;subst y;revert i;intro h
  obtain⟨ts,n,p2,y,i⟩:=eY h;clear h;subst y;revert i;intro h
  obtain⟨t1,t2,rfl,h⟩:=yp h
  obtain⟨b1,ix,p3,y,i⟩:=fW h;clear h;subst y;revert i;intro h
  obtain⟨b2,iy,p4,y,i⟩:=fW h;clear h;subst y;revert i;intro h
  obtain⟨h1,a1⟩:=aj h
  obtain⟨h2,a2⟩:=aj a1
  obtain⟨h3,a3⟩:=aj a2
  obtain⟨h4,a4⟩:=aj a3
  have h7:=aj a4
  clear h a1 a2 a3 a4
  obtain⟨x,px,rfl,h5⟩:=aO h1
  obtain⟨y,py,rfl,h6⟩:=aO h2
  obtain⟨q1,q2,q3⟩:=vM h5
  obtain⟨q4,q5,q6⟩:=vM h6
  exact .items2 q1 q2 q3 q4 q5 q6 (hf _ _ h3) (hf _ _ h4) (hf _ _ h7.1) (iS h7.2)
 case ite xt xa xb=>
  cases s
  case If t a b p=>exact .ite (hf _ _ (aj h).1) (vN (λ_ _=>vP hf hs) hs (aj (aj h).2).1) (vN (λ_ _=>vP hf hs) hs (aj (aj h).2).2)
  all_goals exact nt h
 case loop T it xb=>
  cases s
  case For tg iter b o p=>
   obtain⟨h1,h⟩:=aj h
   obtain⟨h2,h⟩:=aj h
   rw[iK (aj h).2]
   exact .loop (ym h1) (Oh hf h2) (vN (λ_ _=>vP hf hs) hs (aj h).1)
  all_goals exact nt h
 case «while» xt xb=>
  cases s
  case While t b o p=>
   obtain⟨h1,h⟩:=aj h
   rw[iK (aj h).2]
   exact .while (hf _ _ h1) (vN (λ_ _=>vP hf hs) hs (aj h).1)
  all_goals exact nt h
 case raise ci xm=>
  cases s
  case Raise o o2 p=>
   cases o with
   |none=>cases h
   |some e=>
    obtain⟨h1,h2⟩:=aj (show (o2.isNone&&bH e λy es=>decide (P.cls[ci]?=some y)&&(Oe c y&&lB f es [xm]))=true from h)
    clear h
    obtain rfl:o2=none:=by cases o2 with |none=>rfl |some _=>cases h1
    obtain⟨y,es,np,aG,rfl,h5⟩:=aY h2
    obtain⟨h3,h6⟩:=aj h5
    have h7:=aj h6
    clear h2 h5 h6
    obtain⟨m,rfl,h4⟩:=tW hf h7.2
    exact .raise (dec h3) (dec h7.1) h4
  all_goals exact nt h
 case calls=>exact nt h
 case stuck=>exact .stuck
noncomputable def XJ(P:Pg):Nat->Ct->Stmt->Sm->Bool
 | 0=>λ_ _ _=>false
 |n+1=>λc s x=>sm1 P (Ve P 100 c) (XJ P n c) c s x
noncomputable def Mm(P:Pg)(c:Ct)(s:Stmt)(x:Sm):Prop:=∃n,XJ P n c s x=true
noncomputable abbrev Om (P:Pg) (c:Ct) (ss:List Stmt) (xs:List Sm):Prop:=pL (Mf P (Cm P c) (Mm P c) c) (Mm P c) ss xs
theorem Mm.out{P:Pg}{c:Ct}{s:Stmt}{x:Sm}(h:Mm P c s x):jH P (Cm P c) (Mm P c) c s x:=by
 obtain⟨n,h⟩:=h
 cases n with
 |zero=>cases h
 |succ n=>exact SX (f:=Ve P 100 c) (fs:=XJ P n c) (λ_ _ h=>⟨100,h⟩) (λ_ _ h=>⟨n,h⟩) h
noncomputable def Ho(e:Expr):Bool:=match e with
 |.Constant .. |.Name .. |.BinOp .. |.Compare .. |.UnaryOp .. |.BoolOp .. |.IfExp .. |.Tuple .. |.List .. |.Subscript .. |.Call .. |.JoinedStr .. |.ListComp .. |.Dict ..=>true
 |_=>false
theorem Cm.Ho(h:Cm P c e x):Ho e=true:=by cases h.out <;> rfl
section
variable{P:Pg}{c:Ct}{e:Expr}{x:Ex}{env:Env}
theorem Cm.star(h:Cm P c e x)(es:List Expr):starEach (e::es) env=(false,eval e env)::starEach es env:=by
 have hs:=h.Ho
 cases e <;> first |rfl |exact Bool.noConfusion (show false=true from hs)
theorem jG.star(h:Dy P c es xs):starEach es env=es.map λe=>(false,eval e env):=by
 induction es generalizing xs with
 |nil=>rfl
 |cons e es ih=>
  cases h with
  |cons h1 h2=>rw[h1.star,ih h2];rfl
theorem jG.plain(h:Dy P c es xs):(backTo pos (starEach es env)).any (·.1)=false:=by
 rw[h.star]
 unfold backTo
 induction es generalizing xs with
 |nil=>rfl
 |cons e es ih=>
  cases h with
  |cons h1 h2=>
   rw[List.map_cons,List.map_cons,List.any_cons,ih h2]
   rfl
theorem Cm.folded(h:Cm P c e x)(y:Value):foldedSetIterable e env y=pure y:=by
 have hs:=h.Ho
 cases e <;> first |rfl |exact Bool.noConfusion (show false=true from hs)
theorem qM.folded(h:CmI P c e x)(y:Value):foldedSetIterable e env y=pure y:=by
 cases h with
 |seq h=>exact h.folded y
 |dN _ _ _=>rfl
 |jd _ _ _ _=>rfl
 |qI _ _ _ _ _=>rfl
 |zip _ _ _ _=>rfl
theorem Cm.Mp(h:Cm P c e x):sM e:=by
 have hs:=h.Ho
 cases e <;> first |exact λ_ _=>rfl |exact Bool.noConfusion (show false=true from hs)
end
structure jK(P:Pg)(rn:Rn):Prop where
 e:∀{X:Cx}{c:Ct}{z:Z}{k:Nat}{x:Ex}{e:Expr}{g g':G}{r:R},bf P k X c->z.K=X.K->Cm P c e x->rn.e z.bor k x g=some (r,g')->aA X z e g r g'
 t:∀{X:Cx}{c:Ct}{z:Z}{k:Nat}{x:Ex}{e:Expr}{g g':G}{b:Bool},bf P k X c->z.K=X.K->Cm P c e x->rn.t z.bor k x g=some (b,g')->cz X z e g b g'
 b:∀{X:Cx}{c:Ct}{z:Z}{k:Nat}{xs:List Sm}{jk:List Stmt}{g g':G}{f:Fl},bf P k X c->c.df=true->z.K=X.K->Om P c jk xs->rn.b z.bor k xs g=some (f,g')->dW X z jk g f g'
 g:∀{X:Cx}{c:Ct}{z:Z}{k:Nat}{f ir:Nat}{l:Lt}{ls:List Lt}{es:List Ex}{fx v:Str}{scope:Scope}{N':List Str}{kb j:Nat}{fp vp cp:Pos}{g g':G}{r:R},bf P k X c->z.K=X.K->jt (Cm P c) fx f ir P.gD (l::ls) es->Vd c fx scope N' v kb j->rn.e z.bor k (.refs f ir P.gD es) g=some (r,g')->
  ∃ds,r=.new ds/\(∃q cc,pF X je q cc)/\(∀m∈l::ls,aX X.env.scope m.scope/\dZ m.params m.scope)/\dX (pG X z g je N' (X.N.length+j) scope (.Call (.Name fx fp) [.Name v vp] [] cp)) (l::ls) ds
theorem lQ(h:jF N N' scope k=true):Names N N' scope k:=by
 unfold jF at h
 simp only[aao,aaz,aaK,abo]at h
 obtain⟨⟨h1,h2⟩,h3⟩:=h
 refine⟨h1,λx e=>?_,λi x e hi=>?_⟩
 .
  rw[e]at h2;exact aaH h2
 .
  have h4:=h3 i hi
  rw[e]at h4
  simp only[abu,aao,aaz]at h4
  exact h4
theorem kD(ct:bf P k X c)(h:qL c.sc scope=true):aX X.env.scope scope:=by
 unfold qL at h
 simp only[aao,aaz,aaK,abu]at h
 obtain⟨h1,h2⟩:=h
 refine⟨h1,λy hy=>(h2 y hy).1.1,λy hy e=>?_,λy hy e=>?_,λy hy e=>?_⟩
 .
  exact ((h2 y hy).1.2).elim (λq=>absurd e q) id
 .
  exact ((h2 y hy).2).elim (λq=>absurd e q) λq=>q.1
 .
  exact ((h2 y hy).2).elim (λq=>absurd e q) λq=>ct.fre _ q.2
theorem jL{X:Cx}{N':List Str}{scope:Scope}{b:Bk}{x:Str}:(X.blk N' scope b).env.scope.names.lookup x=(scope.names.lookup x).map λk=>if (k==NameKind.free&&X.env.scope.kind==.function&&X.env.kindOf x==some .cell)then NameKind.cell else k:=dR
theorem bf.blk{P:Pg}{k:Nat}{X:Cx}{c:Ct}{scope:Scope}{N':List Str}(ct:bf P k X c)(hnd:N'.Nodup)(b:Bk):bf P k (X.blk N' scope b) ⟨N',scope,false,Str.empty⟩:=by
 refine⟨rfl,hnd,λx e=>?_,λx e=>?_,λx e=>?_,λe=>absurd e (by simp),λx e=>?_,λe=>absurd e (by simp),ct.calm,rfl,ct.md,ct.room,λe=>absurd (show Str.empty=("_law_refusals_right" : Str)from e) (by decide)⟩
 .
  have e':scope.names.lookup x=some .local:=e
  rw[jL,e'];rfl
 .
  have e':scope.names.lookup x=some .globalImplicit:=e
  show (X.blk N' scope b).env.scope.names.lookup x=_
  rw[jL,e'];rfl
 .
  rw[jL]
  rcases e with e |e
  .
   have e':scope.names.lookup x=some .cell:=e
   rw[e'];exact .inl rfl
  .
   have e':scope.names.lookup x=some .free:=e
   rw[e',acN]
   by_cases hq:(NameKind.free==NameKind.free&&X.env.scope.kind==.function&&X.env.kindOf x==some .cell)=true
   .
    rw[aav hq];exact .inl rfl
   .
    rw[aau hq];exact .inr rfl
 .
  rcases e with e |e
  .
   cases e
  .
   have e':scope.names.lookup x=some .local:=e
   show (scope.names.lookup x==some .local)=true
   rw[e'];rfl
section
variable{P:Pg}{rn:Rn}{k:Nat}{X:Cx}{c:Ct}{z:Z}
theorem bh(h:aA X z e g r g'):aA X z e g (norm r) g':=by
 cases r with
 |dat d=>exact h
 |new l=>exact oJ h
 |var i=>exact h
theorem Hq(h:aA X z e g r g1)(hd:toD z.bor r g1=some (d,g')):aA X z e g (.dat d) g':=by
 cases r with
 |dat d'=>cases hd;exact h
 |new l=>cases hd;exact oJ h
 |var i=>
  have hd:(if i∈z.bor then none else match g1[i]? with |some (.own l)=>some (D.lst l,g1.set i (.dat (.lst l))) |_=>none)=some (d,g'):=hd
  split at hd
  .
   cases hd
  .
   rename_i hb
   split at hd
   .
    rename_i l hg
    cases hd
    exact Av h hg hb
   .
    cases hd
theorem aV(hS:jK P rn)(ct:bf P k X c)(hK:z.K=X.K)(hc:Cm P c e x)(h:dY rn z.bor k x g=some (d,g')):aA X z e g (.dat d) g':=by
 unfold dY at h
 split at h
 .
  rename_i r g1 e1
  exact Hq (hS.e ct hK hc e1) h
 .
  cases h
theorem pR:∀(ds:List D),uP (ds.map R.dat)=some ds
 | []=>rfl
 |d::ds=>by
  show (match uP (ds.map R.dat)with |some ds=>some (d::ds) |none=>none)=_
  rw[pR ds]
theorem iL(hS:jK P rn)(ct:bf P k X c)(hK:z.K=X.K):∀{es:List Expr}{xs:List Ex}{g g':G}{ds:List D},Dy P c es xs->mQ rn z.bor k xs g=some (ds,g')->cG X z es g (ds.map .dat) g'
 |_,_,_,_,_,.nil,h=>by cases h;exact dU
 |_,_,_,_,_,.cons h1 h2,h=>by
  unfold mQ at h
  split at h
  .
   rename_i d g1 e1
   split at h
   .
    rename_i ds g2 e2
    cases h
    exact cH (aV hS ct hK h1 e1) (iL hS ct hK h2 e2) (h1.star _)
   .
    cases h
  .
   cases h
theorem kF(hS:jK P rn)(ct:bf P k X c)(hK:z.K=X.K):∀{es:List Expr}{xs:List Ex}{g g':G}{rs:List R},Dy P c es xs->argsR rn z.bor k xs g=some (rs,g')->cG X z es g rs g'
 |_,_,_,_,_,.nil,h=>by cases h;exact dU
 |_,_,_,_,_,.cons h1 h2,h=>by
  unfold argsR at h
  split at h
  .
   rename_i r g1 e1
   split at h
   .
    rename_i rs g2 e2
    cases h
    have q:=bh (hS.e ct hK h1 e1)
    have q2:=kF hS ct hK h2 e2
    cases r with
    |dat d=>exact cH q q2 (h1.star _)
    |new l=>exact cH q q2 (h1.star _)
    |var i=>exact En q q2 (h1.star _)
   .
    cases h
  .
   cases h
theorem iT(h:argsR rn bor k [a,b] g=some (rs,g2)):∃r1 r2 g1,rn.e bor k a g=some (r1,g1)/\rn.e bor k b g1=some (r2,g2)/\rs=[norm r1,norm r2]:=by
 unfold argsR at h
 split at h
 .
  rename_i r1 g1 e1
  unfold argsR at h
  split at h
  .
   rename_i rs' g3 e3
   split at e3
   .
    rename_i r2 g4 e2
    unfold argsR at e3
    cases e3
    cases h
    exact⟨r1,r2,g1,e1,e2,rfl⟩
   .
    cases e3
  .
   cases h
 .
  cases h
theorem yq(hS:jK P rn)(ct:bf P k X c)(hK:z.K=X.K):∀{bs:List Expr}{xs:List Ex}{ops:List CmpOp}{g g':G}{d1:D}{b:Bool},Dy P c bs xs->Dw rn z.bor k d1 ops xs g=some (b,g')->sZ X z d1 ops bs g b g'
 |_,_,[],_,_,_,_,.nil,h=>by cases h
 |_,_,[_],_,_,_,_,.nil,h=>by unfold Dw at h;cases h
 |_,_,_::_::_,_,_,_,_,.nil,h=>by unfold Dw at h;cases h
 |_,_,[],_,_,_,_,.cons _ _,h=>by unfold Dw at h;cases h
 |_,_,[op],_,_,d1,_,.cons h1 .nil,h=>by
  unfold Dw at h
  split at h
  .
   rename_i d2 g1 e1
   split at h
   .
    rename_i b e2
    cases h
    exact .last (aV hS ct hK h1 e1) (jE hK ct.room e2)
   .
    cases h
  .
   cases h
 |_,_,op::op'::ops,_,_,d1,_,.cons h1 .nil,h=>by unfold Dw at h;cases h
 |_,_,[op],_,_,d1,_,.cons h1 (.cons h2 h3),h=>by unfold Dw at h;cases h
 |_,_,op::op'::ops,_,_,d1,_,.cons h1 (.cons h2 h3),h=>by
  unfold Dw at h
  split at h
  .
   rename_i d2 g1 e1
   split at h
   .
    rename_i e2
    exact .link (aV hS ct hK h1 e1) (jE hK ct.room e2) (yq hS ct hK (.cons h2 h3) h)
   .
    rename_i e2
    cases h
    exact .stop (aV hS ct hK h1 e1) (jE hK ct.room e2)
   .
    cases h
  .
   cases h
theorem lR(hS:jK P rn)(ct:bf P k X c)(hK:z.K=X.K):∀{es:List Expr}{l:List (Bool×Ex)}{out r:Str}{g g':G},CmF P c es l->yd rn z.bor k out l g=some (r,g')->uY X z out es g r g'
 |_,_,_,_,_,_,.nil,h=>by cases h;exact .nil
 |_,_,_,_,_,_,.con h1,h=>by
  unfold yd at h
  split at h
  .
   rename_i hl;exact .con hl (lR hS ct hK h1 h)
  .
   cases h
 |_,_,_,_,_,_,.fmt h1 h2,h=>by
  unfold yd at h
  split at h
  .
   rename_i i g1 e1
   split at h
   .
    rename_i hl;exact .int (aV hS ct hK h1 e1) hl.1 hl.2 (lR hS ct hK h2 h)
   .
    cases h
  .
   cases h
variable{pos:Pos}
theorem zQ(hS:jK P rn)(ct:bf P k X c)(hK:z.K=X.K):∀{es:List Expr}{xs:List Ex}{g g':G}{r:R},Dy P c es xs->GK rn z.bor k xs g=some (r,g')->aA X z (.BoolOp .And es pos) g r g'
 |_,_,_,_,_,.nil,h=>by cases h
 |_,_,_,_,_,.cons h1 .nil,h=>Em (hS.e ct hK h1 h)
 |_,_,_,_,_,.cons h1 (.cons h2 h3),h=>by
  unfold GK at h
  split at h
  .
   rename_i g1 e1;exact JZ (hS.e ct hK h1 e1) (zQ hS ct hK (.cons h2 h3) h)
  .
   rename_i g1 e1;cases h;exact JX (hS.e ct hK h1 e1)
  .
   cases h
theorem Hr(hS:jK P rn)(ct:bf P k X c)(hK:z.K=X.K):∀{es:List Expr}{xs:List Ex}{g g':G}{r:R},Dy P c es xs->Xk rn z.bor k xs g=some (r,g')->aA X z (.BoolOp .Or es pos) g r g'
 |_,_,_,_,_,.nil,h=>by cases h
 |_,_,_,_,_,.cons h1 .nil,h=>Em (hS.e ct hK h1 h)
 |_,_,_,_,_,.cons h1 (.cons h2 h3),h=>by
  unfold Xk at h
  split at h
  .
   rename_i g1 e1;exact Qt (hS.e ct hK h1 e1) (Hr hS ct hK (.cons h2 h3) h)
  .
   rename_i g1 e1;cases h;exact Qs (hS.e ct hK h1 e1)
  .
   cases h
theorem vQ(hS:jK P rn)(ct:bf P k X c)(hK:z.K=X.K):∀{es:List Expr}{xs:List Ex}{g g':G}{b:Bool},Dy P c es xs->vB rn z.bor k xs g=some (b,g')->nk X z (.BoolOp .And es pos) g b g'
 |_,_,_,_,_,.nil,h=>by cases h
 |_,_,_,_,_,.cons h1 .nil,h=>JT (hS.t ct hK h1 h)
 |_,_,_,_,_,.cons h1 (.cons h2 h3),h=>by
  unfold vB at h
  split at h
  .
   rename_i g1 e1;exact JW (hS.t ct hK h1 e1) (vQ hS ct hK (.cons h2 h3) h)
  .
   rename_i g1 e1;cases h;exact JV (hS.t ct hK h1 e1)
  .
   cases h
theorem zR(hS:jK P rn)(ct:bf P k X c)(hK:z.K=X.K):∀{es:List Expr}{xs:List Ex}{g g':G}{b:Bool},Dy P c es xs->GL rn z.bor k xs g=some (b,g')->nk X z (.BoolOp .Or es pos) g b g'
 |_,_,_,_,_,.nil,h=>by cases h
 |_,_,_,_,_,.cons h1 .nil,h=>Qo (hS.t ct hK h1 h)
 |_,_,_,_,_,.cons h1 (.cons h2 h3),h=>by
  unfold GL at h
  split at h
  .
   rename_i g1 e1;exact Qq (hS.t ct hK h1 e1) (zR hS ct hK (.cons h2 h3) h)
  .
   rename_i g1 e1;cases h;exact Qp (hS.t ct hK h1 e1)
  .
   cases h
theorem vR(hS:jK P rn)(ct:bf P k X c)(hK:z.K=X.K)(hc:CmO P c e x)(h:vC rn z.bor k x g=some (o,g')):tD X z e g o g':=by
 cases hc with
 |none=>cases h;exact Bd
 |@some e' x' hc=>
  have h:(match dY rn z.bor k x' g with |some (.int i,g1)=>some (some i,g1) |_=>none)=some (o,g'):=h
  split at h
  .
   rename_i e1;cases h;exact Be (aV hS ct hK hc e1)
  .
   cases h
theorem zS(ct:bf P k X c)(h:c.sc.names.lookup x=some .globalImplicit):Gl X x:=ct.kU x h
theorem Hs(hS:jK P rn)(ct:bf P k X c)(hK:z.K=X.K)(htp:tp=true->∃es k pos,tg=.Tuple es k pos)(hc:CmI P c iter it)(h:gA rn z.bor k tp it g=some (items,g')):iE X z tg iter g items g':=by
 cases hc with
 |qI ha hb' hs' hb hg=>
  unfold gA at h
  dsimp only at h
  split at h
  .
   rename_i c0 g1 e1
   split at h
   .
    rename_i j g2 e2
    split at h
    .
     rename_i st g3 e3
     split at h
     .
      rename_i hj
      cases h
      simp only[vD,aao,aaz]at hj
      exact KZ (cH (aV hS ct hK ha e1) (cH (aV hS ct hK hb' e2) (cH (aV hS ct hK hs' e3) dU (hs'.star _)) (hb'.star _)) (ha.star _)) (zS ct hg) (ct.md.bn _ hb) (ha.star _) (jG.plain (.cons hb' (.cons hs' .nil))) hj.1 hj.2.1 ⟨hj.2.2.2,hj.2.2.1.2⟩
     .
      cases h
    .
     cases h
   .
    cases h
  .
   cases h
 |zip ha ha2 hb hg=>
  unfold gA at h
  dsimp only at h
  split at h
  .
   rename_i ht
   obtain⟨es,k0,pos,rfl⟩:=htp ht
   split at h
   .
    rename_i d1 d2 g1 e1
    split at h
    .
     rename_i l m e2 e3
     split at h
     .
      rename_i e4
      cases h
      exact Rx hK (iL hS ct hK (.cons ha (.cons ha2 .nil)) e1) e2 e3 e4 (zS ct hg) (ct.md.bn _ hb) (ha.star _) (by rw[ha2.star];rfl)
     .
      cases h
    .
     cases h
   .
    cases h
  .
   cases h
 |dN ha hb hg=>
  unfold gA at h
  dsimp only at h
  split at h
  .
   rename_i j g1 e1
   split at h
   .
    rename_i hj
    cases h
    simp only[Lk,aao,aaz]at hj
    exact Kd (cH (aV hS ct hK ha e1) dU (ha.star _)) (zS ct hg) (ct.md.bn _ hb) (by rw[ha.star];rfl) hj.1 hj.2
   .
    cases h
  .
   cases h
 |jd ha hb' hb hg=>
  unfold gA at h
  dsimp only at h
  split at h
  .
   rename_i c0 g1 e1
   split at h
   .
    rename_i j g2 e2
    split at h
    .
     rename_i hj
     cases h
     simp only[Lk,aao,aaz]at hj
     exact Ke (cH (aV hS ct hK ha e1) (cH (aV hS ct hK hb' e2) dU (hb'.star _)) (ha.star _)) (zS ct hg) (ct.md.bn _ hb) (by rw[ha.star,hb'.star];rfl) (by rw[hb'.star];rfl) ⟨hj.1.1,hj.1.2,hj.2.1,hj.2.2⟩
    .
     cases h
   .
    cases h
  .
   cases h
 |seq hc=>
  have h':(match dY rn z.bor k it g with |some (.tup l,g1)=>some (l,g1) |some (.lst l,g1)=>some (l,g1) |some (.fix l,g1)=>some (l,g1) |_=>none)=some (items,g'):=by
   cases hc.out <;> exact h
  split at h'
  .
   rename_i e1;cases h';exact Q5 hK (aV hS ct hK hc e1)
  .
   rename_i e1;cases h';exact Q6 (aV hS ct hK hc e1)
  .
   rename_i e1;cases h';exact Q7 hK (aV hS ct hK hc e1)
  .
   cases h'
theorem Ht(hS:jK P rn)(ct:bf P k X c)(hK:z.K=X.K)(hc:SJ P c ifs co)(h:BZ rn z.bor k co g=some (b,g')):jm X z ifs g b g':=by
 cases hc with
 |none=>cases h;exact Kf
 |some hc=>exact Kg (hS.t ct hK hc h)
theorem Oo(h:Ls c tg T):T.pI=true->∃es k pos,tg=.Tuple es k pos:=by
 cases h with
 |nm _ _=>intro e;cases e
 |tp _=>intro _;exact⟨_,_,_,rfl⟩
theorem S0(ct:bf P k X c)(h:Cb c es is):j9 X es is:=by
 induction h with
 |nil=>exact .nil
 |cons h1 h2 _ ih=>exact .cons (ct.nm h1 h2) ih
theorem Hu(ct:bf P k X c)(hK:z.K=X.K)(h:Ls c tg T)(hb:∀i∈T.ix,i∉z.bor):uU X z tg T:=by
 cases h with
 |nm h1 h2=>exact Ww (ct.nm h1 h2) (hb _ (aaC.mpr rfl))
 |tp h1=>exact Wx ct.calm hK (S0 ct h1) hb
theorem yt(hS:jK P rn){Xb:Bk->Cx}{cb:Ct}(XM:∀b,bf P k (Xb b) cb)(N8:∀b,z.K=(Xb b).K){T:Tg}{last:Nat}{ifs:List Expr}{co:Option Ex}{dI:Expr}{xe:Ex}(hi:SJ P cb ifs co)(he:Cm P cb dI xe) :
  ∀{items:List D}{g gE:G},Ca rn z.bor k T last co xe items g=some gE->nu T last (λg b g'=>∀bk:Bk,jm (Xb bk) z ifs g b g') (λg d g'=>∀bk:Bk,aA (Xb bk) z dI g (.dat d) g') items g gE
 | [],_,_,h=>by cases h;exact .nil
 |d::l,_,_,h=>by
  unfold Ca at h
  split at h
  .
   cases h
  .
   rename_i g1 e1
   split at h
   .
    cases h
   .
    rename_i g2 e2
    exact .skip e1 (λbk=>Ht hS (XM bk) (N8 bk) hi e2) (yt hS XM N8 hi he h)
   .
    rename_i g2 e2
    split at h
    .
     cases h
    .
     rename_i x g3 e3
     split at h
     .
      rename_i acc e4
      split at h
      .
       rename_i hl
       exact .take e1 (λbk=>Ht hS (XM bk) (N8 bk) hi e2) (λbk=>aV hS (XM bk) (N8 bk) he e3) e4 hl (yt hS XM N8 hi he h)
      .
       cases h
     .
      cases h
end
def jv(P:Pg)(mg:Str->Option Value)(ci:Nat)(C:Addr):Prop:=∃x,P.cls[ci]?=some x/\mg x=some (.ref C)
structure Mq(P:Pg)(k:Nat)(X:Cx)(c:Ct):Prop where
 ct:bf P k X.mj c
 ex:X.ex=[]
 pa:PassesOwn (model X.prog X.w) X.A X.env X.xe
structure nD(P:Pg)(rn:Rn):Prop where
 x:∀{X:Cx}{c:Ct}{z:Z}{k:Nat}{x:Ex}{e:Expr}{g g':G}{ci:Nat}{C:Addr},Mq P k X c->z.K=X.K->jv P X.mg ci C->Cm P c e x->rn.x z.bor k x g=some (ci,g')->FJ X z e g C g'
 t:∀{X:Cx}{c:Ct}{z:Z}{k:Nat}{x:Ex}{e:Expr}{g g':G}{ci:Nat}{C:Addr},Mq P k X c->z.K=X.K->jv P X.mg ci C->Cm P c e x->rn.xt z.bor k x g=some (ci,g')->U3 X z e g C g'
 b:∀{X:Cx}{c:Ct}{z:Z}{k:Nat}{xs:List Sm}{jk:List Stmt}{g g':G}{ci:Nat}{C:Addr},Mq P k X c->c.df=true->z.K=X.K->jv P X.mg ci C->Om P c jk xs->rn.xb z.bor k xs g=some (ci,g')->Ku X z jk g C g'
structure Mr(P:Pg)(fi:Fi)(fx:Fx):Prop where
 np:fx.np=fi.ps.length
 n:fx.n=fi.N.length
 body:Om P ⟨fi.N,aD fi.st,true,fi.qual⟩ (cD fi.st) fx.body
def g5(P:Pg)(fns:List Fx):Prop:=∀(f:Nat) (fi:Fi) (fx:Fx),P.fn[f]?=some fi->fns[f]?=some fx->Mr P fi fx
theorem pS{P:Pg}{k:Nat}{prog:Program}{w:World}{K:Frag}{mg:Str->Option Value}{base:Heap}{N ps:List Str}{qual:Str}{scope:Scope}{f:Addr}{bB:Value}{A:Around}{outer:List Env}{s:Shared}{H:Hp}{E:XK}
  (S:bV N ps scope) (md:tR P K mg) (bD:PySem.W.codeIn K bB qual=true) (hr:cu k (A.deeper (envOfC qual scope s⁻¹ f bB))):bf P k (fL uB prog w K mg base N qual scope f bB A outer s H E).mj ⟨N,scope,true,qual⟩:=by
 refine⟨rfl,S.nd,λx e=>e,λx e=>e,λx e=>e,λ_ x e=>e,λx _=>rfl,λ_=>?_,rfl,rfl,md,hr,λe h=>⟨by have e:qual = "_law_refusals_right" :=e;subst e;rfl,md.lam h _ (by have e:qual = "_law_refusals_right" :=e;exact e▸bD)⟩⟩
 show (if scope.kind.isAnnotationScope then ScopeKind.function else scope.kind)=.function
 rw[S.kind]
 rfl
section
variable{P:Pg}{rn:Rn}{k:Nat}{X:Cx}{c:Ct}{z:Z}{pos p:Pos}
theorem Hv(hS:jK P rn){k':Nat}(ct:bf P (k'+1) X c)(hK:z.K=X.K){f:Nat}{fi:Fi}{fx:Fx}(XQ:P.fn[f]?=some fi)(uA:Mr P fi fx)(Ob:c.sc.names.lookup fi.name=some .globalImplicit){e:Expr}{es:List Expr}{xs:List Ex}{rs:List R}{g g1 gO:G}{r:R}
  (hc:Dy P c (e::es) xs) (ha:cG X z (e::es) g rs g1) (h:aK rn fx k' rs g1=some (r,gO)):aA X z (.Call (.Name fi.name p) (e::es) [] pos) g r gO:=by
 obtain⟨f,fd,hm,hF,S8,hB,jy⟩:=ct.md.fn _ fi XQ
 have F:iW X.prog X.w X.K X.mg X.base uB (k'+1) f fd fi.ps (Kc X.K fi.N fi.ps.length λbor g r g'=>rn.b bor k' fx.body g=some (.rt r,g')\/(rn.b bor k' fx.body g=some (.nx,g')/\r=.dat .non)):=by
  refine zp hF S8 λbB A outer s H E bD hr z' g r g' U9 hrun=>?_
  have ct':bf P k' (fL uB X.prog X.w X.K X.mg X.base fi.N fi.qual (aD fi.st) f bB A outer s H E).mj ⟨fi.N,aD fi.st,true,fi.qual⟩:=pS S8 ct.md bD hr
  rcases hrun with h |⟨h,rfl⟩
  .
   exact⟨_,hS.b ct' rfl U9 uA.body h,.inl rfl⟩
  .
   exact⟨_,hS.b ct' rfl U9 uA.body h,.inr ⟨rfl,rfl⟩⟩
 have h1:∃h2:Dy P c es xs.tail,starEach (e::es) X.env=(false,eval e X.env)::starEach es X.env:=by
  cases hc with
  |cons h1 h2=>exact⟨h2,h1.star _⟩
 obtain⟨h2,d9⟩:=h1
 unfold aK at h
 split at h
 .
  rename_i hl
  split at h
  .
   cases h
  .
   rename_i gs e1
   split at h
   .
    rename_i r0 gc e2
    split at h
    .
     rename_i gO' e3
     split at h
     .
      rename_i r' e4
      cases h
      exact zo F hK ct.room (ct.kU _ Ob) hm hF.kp hB ha (by rw[hl.1,uA.np]) e1 hl.2 (.inl (by rw[<- uA.n];exact e2)) e3 e4 jy d9 h2.plain
     .
      cases h
    .
     cases h
   .
    rename_i gc e2
    split at h
    .
     rename_i gO' e3
     cases h
     exact zo F hK ct.room (ct.kU _ Ob) hm hF.kp hB ha (by rw[hl.1,uA.np]) e1 hl.2 (.inr ⟨by rw[<- uA.n];exact e2,rfl⟩) e3 rfl jy d9 h2.plain
    .
     cases h
   .
    cases h
 .
  cases h
theorem vU(hS:jK P rn)(ct:bf P k X c)(hK:z.K=X.K)
  (hnd:N'.Nodup) (hT:Ls ⟨N',scope,false,Str.empty⟩ tg T) (zT:∀i∈T.ix,c.N.length<=i/\i<c.N.length+kk) (hi:CmI P c iter it) (hf:SJ P ⟨N',scope,false,Str.empty⟩ ifs co) (he:Cm P ⟨N',scope,false,Str.empty⟩ dI xe)
  (h:dh rn z.bor k c.N.length kk T it co xe g=some (acc,g')) :
  ∃items g1 gE,iE X z tg iter g items g1/\(∀b:Bk,uU (X.blk N' scope b) z tg T)/\(∀i∈T.ix,g1.length<=i/\i<g1.length+kk)/\
   nu T (g1.length+kk) (λg b g'=>∀bk:Bk,jm (X.blk N' scope bk) z ifs g b g') (λg d g'=>∀bk:Bk,aA (X.blk N' scope bk) z dI g (.dat d) g') items (gC kk g1) gE/\gE[g1.length+kk]?=some (.own acc)/\g'=gE.take g1.length:=by
 unfold dh at h
 split at h
 .
  cases h
 .
  rename_i items g1 e1
  split at h
  .
   rename_i hl
   split at h
   .
    cases h
   .
    rename_i gE e2
    split at h
    .
     rename_i acc' e3
     cases h
     obtain⟨hl,hb⟩:=hl
     rw[<- hl]at e2 e3 zT ⊢
     refine⟨items,g1,gE,Hs hS ct hK (Oo hT) hi e1,λb=>Hu (ct.blk hnd b) hK hT λi hi hm=>?_,zT,yt hS (λb=>ct.blk hnd b) (λb=>hK) hf he e2,e3,rfl⟩
     rw[List.any_eq_false]at hb
     exact hb i hi (abP hm)
    .
     cases h
  .
   cases h
end
theorem Ms{P:Pg}{c:Ct}{er y ke en Jj:Str}{xV np RD py aG kN kp rK rL aQ kP jR:Pos}{j:Nat}{rest:List Stmt}{bd:List Sm}(h:Om P c (.Assign [.Name er xV] (.Constant .none j np) RD::GC y ke en Jj py aG kN kp rK rL aQ kP jR::rest) bd):Om P c rest (bd.drop 2):=by
 have nog:∀{s:Stmt}{ss:List Stmt}{x:Sm}{r:List Stmt},Mf P (Cm P c) (Mm P c) c ss x->ss++r=s::rest->(∀a b p,s≠.Assign a b p)->False:=λg e n=>by
  cases g <;> (injection e with e1 e2;exact n _ _ _ e1.symm)
 generalize hq:(Stmt.Assign [.Name er xV] (.Constant .none j np) RD::GC y ke en Jj py aG kN kp rK rL aQ kP jR::rest)=jk at h
 cases h with
 |nil=>cases hq
 |grp g _=>
  cases g <;> (injection hq with e1 e2;injection e1 with e3 e4;cases e4)
 |cons _ h1=>
  injection hq with e1 e2
  generalize hq2:(GC y ke en Jj py aG kN kp rK rL aQ kP jR::rest)=aU at e2
  subst e2
  cases h1 with
  |nil=>cases hq2
  |grp g _=>exact (nog g hq2.symm (λa b p e=>nomatch e)).elim
  |cons _ h2=>injection hq2 with e1 e2;subst e2;exact h2
section
variable{P:Pg}{rn:Rn}{k:Nat}{X:Cx}{c:Ct}{z:Z}
theorem Hw(ct:bf P k X c){es:List Expr}{ns:List String}(h:yg P c es ns):oX X es ns/\∀n∈ns,n∈qK:=by
 induction h with
 |nil=>exact⟨.nil,λn hn=>nomatch hn⟩
 |@cons T n pos es ns h1 h2 h3 h4 _ ih=>
  refine⟨.cons ?_ ih.1,λm hm=>(aaj.mp hm).elim (λe=>e▸h4) (ih.2 m)⟩
  subst h3
  refine⟨ct.kU _ h2,ct.md.bn _ h1,?_,?_,?_⟩ <;> (unfold qK at h4;simp only[aaj,aaO,abO]at h4;rcases h4 with rfl |rfl |rfl |rfl |rfl |rfl <;> first |rfl |decide)
theorem S9{e:Expr}{g g1:G}{r:R}{d:D}(h:aA X z e g r g1)(hp:pk r g1=some d)(hs:starEach [e] X.env=(false,eval e X.env)::starEach [] X.env):cG X z [e] g [r] g1:=by
 cases r with
 |dat d=>exact cH h dU hs
 |new l=>cases hp
 |var i=>exact En h dU hs
theorem tY{e:Expr}{x:Ex}{aG:Pos}(hc:Cm P c e x):((backTo aG (starEach [e] X.env)).all (λx=>!x.1)&&(backToKw aG (keywordEach [] X.env)).all (λx=>x.1.isSome)
   && decide ([e].length+([]:List Keyword).length+(if ([]:List Keyword).isEmpty then 0 else 1)<30))=true:=by
 rw[hc.star]
 rfl
theorem Cm.attr{e:Expr}{x:Ex}{env:Env}(h:Cm P c e x)(m:Str):attributeBase e m env (eval e env)=eval e env:=by
 cases h.out <;> rfl
theorem zU(hS:jK P rn)(hX:nD P rn){fns:List Fx}(hF:g5 P fns){k':Nat}{Y:Cx}(md:tR P Y.K Y.mg)(hr:cu (k'+2) Y.A)(hcm:Y.calm=true)(hKY:z.K=Y.K)(Wj:c.N.Nodup)(hN:X.N=c.N){f ir:Nat}{fi:Fi}{l:Lt}{xb:Ex}{g Dt g3:G}{r0 r':R}{fx:Fx}{ci:Nat}{C:Addr}
  (h1:P.fn[f]?=some fi) (h5:P.lam=true) (h6:G0 fi ir P.kt=true) (h8:Ce l.params l.scope=true) (h9:Cm P ⟨c.N,l.scope,false,Str.empty⟩ l.body xb)
  (e1:fns[f]?=some fx) (e2:rn.x [] k' xb (g.map noOwn)=some (ci,Dt)) (e3:P.gD[ci]?=some C) (e4:rn.b [] k' (fx.body.drop 2) ((List.replicate fx.n .no).set ir (.dat (.mC C)))=some (.rt r0,g3)) (e5:dz [] g3 r0=some r') {fa:Addr}{fd:FuncData} (F:Jd Y.K fi.name fi.qual fi.st fa fd) (Sc:bV fi.N fi.ps (aD fi.st)) (bd:L2.Binds Y.K fd fi.ps []):xW Y X z g je l r' fa:=by
 have uA:=hF f fi fx h1 e1
 obtain⟨xC,c1,c2,qC,kC⟩:=md.gD ci C e3
 obtain⟨dk,D,mD,qD,hup⟩:=md.kt h5
 have L:=tU h8
 unfold G0 at h6
 split at h6
 .
  rename_i er y ke en Jj Od hv
  obtain⟨xV,j,np,RD,py,aG,kN,kp,rK,rL,aQ,kP,jR,rest,d9⟩:=L5 hv
  obtain⟨p1,p2⟩:=aj h6
  obtain⟨⟨q1,q2,q3,q4⟩,⟨q5,q6,q7⟩,⟨q8,q9⟩,q10,q11,q12⟩:=dec p1
  subst q1 q2 q3
  obtain⟨p3,p4⟩:=aj p2
  have pe:=bR (aj p3).1
  have py':=bR (aj p3).2
  have vy:nI (aD fi.st) y:=by
   have:=(aj p4).1
   unfold jf at this
   split at this
   .
    rename_i e;exact .inl e
   .
    rename_i e;exact .inr (.inl e)
   .
    rename_i e;exact .inr (.inr e)
   .
    cases this
  have lr:Loc (aD fi.st) Jj:=by
   have:=(aj p4).2
   unfold jg at this
   split at this
   .
    rename_i e;exact .inl e
   .
    rename_i e;exact .inr e
   .
    cases this
  have hb:=uA.body
  rw[d9]at hb
  have hrs:Om P ⟨fi.N,aD fi.st,true,fi.qual⟩ rest (fx.body.drop 2):=Ms hb
  intro ah σ1 σ0 H1 s1 g1 As A0 M p c' cl pm g6 us Q E I1 S1 hp1 hc1 Cl0 Xh rv hQ
  refine RJ (k:=k') (C:=C) (D:=D) (y:=y) (ke:=P.kt) (en:=Od) (er:=Jj) (ie:=fi.N.idxOf Od) (ir:=ir) (Dt:=Dt) (g3:=g3) (r:=r0) (N:=X.N) hKY hr hcm F d9 (q4▸Sc) (q4▸bd)
   ⟨Sc.nd,q5,mD,dk,qC,qD,hup C (aaP e3),kC,q6,q7,pe.1,pe.2,q8,lr,q9,vy,py'.1,py'.2,q10,q11,q12⟩ L (λXf s H xe zl a1 a2 a3 a4 a5 hr hc hp hzK hzb=>?_) (λbB A outer s H E bD hr zf hzK hzb=>?_) e5 I1 S1 hp1 hc1 Cl0 Xh.noOwn (λi l e=>BV e) rv hQ
  .
   have hci:jv P (vn Xf X.N je l.scope p (.ref c') cl s H xe).mg ci C:=⟨xC,c1,a4▸c2⟩
   refine hX.x (c:=⟨c.N,l.scope,false,Str.empty⟩) ⟨⟨hN,Wj,λx e=>e,λx e=>e,λx e=>e,(λe=>nomatch e),λx e=>?_,(λe=>nomatch e),rfl,rfl,?_,hr.deeper _,λe=>absurd (show Str.empty=("_law_refusals_right" : Str)from e) (by decide)⟩,rfl,hp⟩ (hzK.trans a3.symm) hci h9 (by rw[hzb];exact e2)
   .
    rcases e with e |e
    .
     cases e
    .
     exact absurd rfl (L.nl _ (L2.mem_of_lookup e))
   .
    show tR P Xf.K Xf.mg
    rw[a3,a4];exact md
  .
   have e4':rn.b zf.bor k' (fx.body.drop 2) ((List.replicate fi.N.length .no).set ir (.dat (.mC C)))=some (.rt r0,g3):=by rw[hzb,<- uA.n];exact e4
   exact hS.b (pS Sc md bD hr) rfl hzK hrs e4'
 .
  cases h6
theorem Oq(ct:bf P k X c)(h4:c.q = "_law_refusals_right")(h5:P.lam=true):∃q cc,pF X je q cc:=by
 obtain⟨hqn,cc,q,hcode,hC,hq,hbi,W7⟩:=ct.lam h4 h5
 exact⟨q,cc,hq,λp hp _=>Au hp,hcode,hC,hqn,hbi,W7⟩
theorem Mu(hS:jK P rn)(hX:nD P rn){fns:List Fx}(hF:g5 P fns){k':Nat}(ct:bf P (k'+2) X c)(hK:z.K=X.K){x:Str}{f ir:Nat}{fi:Fi}{params:Arguments}{body:Expr}{scope:Scope}{xb:Ex}{fp Cg pos:Pos}{g Dt g3:G}{r0 r':R}{fx:Fx}{ci:Nat}{C:Addr}
  (h1:P.fn[f]?=some fi) (h2:fi.name=x) (h3:c.sc.names.lookup x=some .globalImplicit) (h4:c.q = "_law_refusals_right") (h5:P.lam=true) (h6:G0 fi ir P.kt=true) (h7:qL c.sc scope=true) (h8:Ce params scope=true) (h9:Cm P ⟨c.N,scope,false,Str.empty⟩ body xb)
  (e1:fns[f]?=some fx) (e2:rn.x [] k' xb (g.map noOwn)=some (ci,Dt)) (e3:P.gD[ci]?=some C) (e4:rn.b [] k' (fx.body.drop 2) ((List.replicate fx.n .no).set ir (.dat (.mC C)))=some (.rt r0,g3)) (e5:dz [] g3 r0=some r') :
  aA X z (.Call (.Name x fp) [.Lambda params body scope Cg] [] pos) g r' g:=by
 obtain⟨fa,fd,m1,F,Sc,bd,db⟩:=ct.md.fn f fi h1
 obtain⟨q,cc,mk⟩:=Oq ct h4 h5
 subst h2
 exact Lc (l:=⟨params,body,scope,Cg⟩) hK F (ct.kU _ h3) m1 db mk (kD ct h7) (tU h8) (zU hS hX hF ct.md ct.room ct.calm hK ct.nd ct.N h1 h5 h6 h8 h9 e1 e2 e3 e4 e5 F Sc bd)
theorem Mv(hS:jK P rn)(hX:nD P rn){fns:List Fx}(hF:g5 P fns)(ct:bf P k X c)(hK:z.K=X.K){f ir:Nat}{fx v:Str}{scope:Scope}{N':List Str}{kb j:Nat}{fp vp cp:Pos}{g:G}(B:Vd c fx scope N' v kb j){l:Lt}{e:Ex}{d:D}(hc:Cm P c (.Call (.Name fx p0) [l.ex] [] p0) (.ig f ir [] e))(ed:GP rn k fns f ir P.gD e g=some d) :
  ((∃q cc,pF X je q cc)/\aX X.env.scope l.scope/\dZ l.params l.scope)/\pG X z g je N' (X.N.length+j) scope (.Call (.Name fx fp) [.Name v vp] [] cp) l d:=by
 cases hc.out with
 |@ig x f ir fi params body sc xb _ fp' Cg pos h1 h2 h3 h4 h5 h6 h7 h8 h9=>
  unfold GP at ed
  split at ed
  .
   rename_i fxx k' e1
   split at ed
   .
    rename_i ci Dt e2
    split at ed
    .
     rename_i C e3
     split at ed
     .
      rename_i r0 g3 e4
      split at ed
      .
       rename_i r' e5
       obtain⟨fa,fd,m1,F,Sc,bd,db⟩:=ct.md.fn _ fi h1
       subst h2
       have Bl:=kD ct h7
       have L:=tU h8
       obtain⟨dv,bB⟩:=bR B.pl
       exact⟨⟨Oq ct h4 h5,Bl,L⟩,RL Bl L F m1 db (λbk=>(ct.blk B.nd bk).kU _ B.gl) (by rw[ct.N];exact B.ix) (λbk=>(ct.blk B.nd bk).vis B.vi) dv bB
        (λbk=>zU (Y:=X.blk N' scope bk) hS hX hF ct.md ct.room ct.calm hK ct.nd ct.N h1 h5 h6 h8 h9 e1 e2 e3 e4 e5 F Sc bd) ed⟩
      .
       cases ed
     .
      cases ed
    .
     cases ed
   .
    cases ed
  .
   cases ed
theorem zV(hS:jK P rn)(hX:nD P rn){fns:List Fx}(hF:g5 P fns)(ct:bf P k X c)(hK:z.K=X.K){f ir:Nat}{fx v:Str}{scope:Scope}{N':List Str}{kb j:Nat}{fp vp cp:Pos}{g:G}(B:Vd c fx scope N' v kb j) :
  ∀{ls:List Lt}{es:List Ex}{ds:List D},jt (Cm P c) fx f ir P.gD ls es->rO rn k fns f ir P.gD es g=some ds->(∀m∈ls,(∃q cc,pF X je q cc)/\aX X.env.scope m.scope/\dZ m.params m.scope)/\dX (pG X z g je N' (X.N.length+j) scope (.Call (.Name fx fp) [.Name v vp] [] cp)) ls ds
 |_,_,_,.nil,h=>by cases h;exact⟨(λm h=>nomatch h),.nil⟩
 |l::ls,e::es,_,.cons hc hcs,h=>by
  unfold rO at h
  split at h
  .
   rename_i d ed
   split at h
   .
    rename_i ds eds
    cases h
    obtain⟨q1,q2⟩:=zV hS hX hF ct hK B hcs eds
    obtain⟨q3,q4⟩:=Mv hS hX hF ct hK B hc ed
    exact⟨λm hm=>(aaj.mp hm).elim (λe=>e▸q3) (q1 m),.cons q4 q2⟩
   .
    cases h
  .
   cases h
theorem Hx(hS:jK P rn)(hX:nD P rn){fns:List Fx}(hF:g5 P fns)(ct:bf P k X c)(hK:z.K=X.K){f ir:Nat}{fx v:Str}{scope:Scope}{N':List Str}{kb j:Nat}{fp vp cp:Pos}{g g':G}{l:Lt}{ls:List Lt}{es:List Ex}{r:R}(hl:jt (Cm P c) fx f ir P.gD (l::ls) es)(B:Vd c fx scope N' v kb j)(h:aN rn z.bor k fns (.refs f ir P.gD es) g=some (r,g')) :
  ∃ds,r=.new ds/\(∃q cc,pF X je q cc)/\(∀m∈l::ls,aX X.env.scope m.scope/\dZ m.params m.scope)/\dX (pG X z g je N' (X.N.length+j) scope (.Call (.Name fx fp) [.Name v vp] [] cp)) (l::ls) ds:=by
 unfold aN at h
 dsimp only at h
 split at h
 .
  rename_i ds e
  cases h
  obtain⟨q1,q2⟩:=zV hS hX hF ct hK B hl e
  exact⟨ds,rfl,(q1 l aah).1,λm hm=>(q1 m hm).2,q2⟩
 .
  cases h
theorem Hy(hS:jK P rn)(hX:nD P rn){fns:List Fx}(hF:g5 P fns)(ct:bf P k X c)(hK:z.K=X.K){e:Expr}{x:Ex}{g g':G}{r:R}(hc:Cm P c e x)(h:aN rn z.bor k fns x g=some (r,g')):aA X z e g r g':=by
 cases hc.out with
 |int=>cases h;exact Qg
 |bool=>cases h;exact Wm
 |none=>cases h;exact Qh
 |str=>cases h;exact Qi
 |var h1 h2 h3=>
  obtain⟨hd,bD⟩:=bR h3
  unfold aN at h
  dsimp only at h
  split at h
  .
   rename_i e1;cases h;exact Qj (by rw[ct.N];exact h1) (ct.vis h2) hd bD e1
  .
   rename_i e1;cases h;exact JQ (by rw[ct.N];exact h1) (ct.vis h2) hd bD e1
  .
   cases h
 |glob h1 h2=>
  cases h
  obtain⟨hd,v,u,q1,q2,q3⟩:=ct.md.ct _ _ h1
  exact JR (ct.kU _ h2) q1 q2 (hK▸q3) hd
 |bin h1 h2=>
  unfold aN at h
  dsimp only at h
  split at h
  .
   rename_i r1 r2 g2 e1
   obtain⟨s1,s2,g1,q1,q2,q3⟩:=iT e1
   cases q3
   split at h
   .
    rename_i d1 d2 p1 p2
    split at h
    .
     rename_i r0 e3
     cases h
     exact Qk (bh (hS.e ct hK h1 q1)) (bh (hS.e ct hK h2 q2)) p1 p2 (RT hK e3)
    .
     cases h
   .
    cases h
  .
   cases h
 |cmp h1 h2 h3=>
  unfold aN at h
  dsimp only at h
  split at h
  .
   rename_i r1 r2 g2 e1
   obtain⟨s1,s2,g1,q1,q2,q3⟩:=iT e1
   cases q3
   split at h
   .
    rename_i d1 d2 p1 p2
    split at h
    .
     rename_i r0 e3
     cases h
     exact Ql (bh (hS.e ct hK h1 q1)) (bh (hS.e ct hK h2 q2)) p1 p2 (jE hK ct.room e3) h3
    .
     cases h
   .
    cases h
  .
   cases h
 |chain h1 h2 h3=>
  unfold aN at h
  dsimp only at h
  split at h
  .
   rename_i d1 g1 e1
   split at h
   .
    rename_i b g2 e2
    cases h
    exact Ft (aV hS ct hK h1 e1) (yq hS ct hK h2 e2) h3
   .
    cases h
  .
   cases h
 |neg h1=>
  unfold aN at h
  dsimp only at h
  split at h
  .
   rename_i i g1 e1
   cases h
   exact Wo (aV hS ct hK h1 e1) rfl QJ
  .
   cases h
 |not h1=>
  unfold aN at h
  dsimp only at h
  split at h
  .
   rename_i b g1 e1
   cases h
   exact Qu (hS.e ct hK h1 e1)
  .
   cases h
 |and h1=>exact zQ hS ct hK h1 h
 |or h1=>exact Hr hS ct hK h1 h
 |ite h1 h2 h3=>
  unfold aN at h
  dsimp only at h
  split at h
  .
   rename_i g1 e1;exact Qv (hS.t ct hK h1 e1) (hS.e ct hK h2 h)
  .
   rename_i g1 e1;exact Qw (hS.t ct hK h1 e1) (hS.e ct hK h3 h)
  .
   cases h
 |tup h1=>
  unfold aN at h
  dsimp only at h
  split at h
  .
   rename_i ds g1 e1
   split at h
   .
    rename_i hl
    cases h
    exact Qx (iL hS ct hK h1 e1) (pR _) hl
   .
    cases h
  .
   cases h
 |lst h1=>
  unfold aN at h
  dsimp only at h
  split at h
  .
   rename_i ds g1 e1
   split at h
   .
    rename_i hl
    cases h
    exact Qy (iL hS ct hK h1 e1) (pR _) hl
   .
    cases h
  .
   cases h
 |ix h1 h2=>
  unfold aN at h
  dsimp only at h
  split at h
  .
   rename_i r1 r2 g2 e1
   obtain⟨s1,s2,g1,q1,q2,q3⟩:=iT e1
   cases q3
   split at h
   .
    rename_i d1 d2 p1 p2
    split at h
    .
     rename_i r0 e3
     cases h
     exact Wn (bh (hS.e ct hK h1 q1)) (bh (hS.e ct hK h2 q2)) p1 p2 (RV hK e3) h2.Mp
    .
     cases h
   .
    cases h
  .
   cases h
 |slice h1 h2 h3=>
  unfold aN at h
  dsimp only at h
  split at h
  .
   rename_i r0 g1 e1
   have q:=bh (hS.e ct hK h1 e1)
   split at h
   .
    rename_i i g2 e2
    have q2:=vR hS ct hK h2 e2
    split at h
    .
     rename_i j g3 e3
     have q3:=vR hS ct hK h3 e3
     split at h
     .
      rename_i l e4
      cases h
      rw[e4]at q
      exact Bh hK q q2 q3
     .
      rename_i l e4
      cases h
      rw[e4]at q
      exact Bg hK q q2 q3
     .
      split at h
      .
       rename_i e5
       cases h
       exact Bf (d:=.non) hK q q2 q3 e5
      .
       cases h
    .
     cases h
   .
    cases h
  .
   cases h
 |call h1 h2 h3 h4=>
  subst h2
  unfold aN at h
  dsimp only at h
  split at h
  .
   rename_i fx k' ct' uA
   split at h
   .
    rename_i rs g1 e1
    exact Hv hS ct hK h1 (hF _ _ _ h1 uA) h3 h4 (kF hS ct hK h4 e1) h
   .
    cases h
  .
   cases h
 |@blt x b e es xs p pos h1 h2 h3 h4=>
  unfold aN at h
  dsimp only at h
  split at h
  .
   rename_i rs g1 e1
   split at h
   .
    rename_i ds e2
    split at h
    .
     rename_i r0 e3
     cases h
     have ha:=kF hS ct hK h4 e1
     have bD:=RX hK ct.calm e3
     have d9:starEach (e::es) X.env=(false,eval e X.env)::starEach es X.env:=by cases h4 with |cons h _=>exact h.star _
     have iu:(backTo pos (starEach es X.env)).any (·.1)=false:=by cases h4 with |cons _ h=>exact h.plain
     subst h1
     cases b with
     |len=>exact fS ha e2 bD (ct.kU _ h3) (ct.md.bn _ h2) rfl (by decide) (by decide) d9 iu
     |list=>exact lq ha e2 bD (ct.kU _ h3) (ct.md.bn _ h2) rfl (by decide) (by decide) d9 iu
     |tuple=>exact lq ha e2 bD (ct.kU _ h3) (ct.md.bn _ h2) rfl (by decide) (by decide) d9 iu
     |max=>exact fS ha e2 bD (ct.kU _ h3) (ct.md.bn _ h2) rfl (by decide) (by decide) d9 iu
     |min=>exact fS ha e2 bD (ct.kU _ h3) (ct.md.bn _ h2) rfl (by decide) (by decide) d9 iu
     |str=>exact lq ha e2 bD (ct.kU _ h3) (ct.md.bn _ h2) rfl (by decide) (by decide) d9 iu
     |all=>exact fS ha e2 bD (ct.kU _ h3) (ct.md.bn _ h2) rfl (by decide) (by decide) d9 iu
     |sorted=>exact fS ha e2 bD (ct.kU _ h3) (ct.md.bn _ h2) rfl (by decide) (by decide) d9 iu
     |sum=>exact fS ha e2 bD (ct.kU _ h3) (ct.md.bn _ h2) rfl (by decide) (by decide) d9 iu
    .
     cases h
   .
    cases h
  .
   cases h
 |@qH a xa T n p pT pos h1 h2 h3 h4 h5 h6 h7=>
  unfold aN at h
  dsimp only at h
  split at h
  .
   rename_i r0 g1 e1
   split at h
   .
    rename_i d e2
    cases h
    obtain⟨t1,_⟩:=Hw ct (yg.cons (pos:=pT) h4 h5 h6 h7 .nil)
    cases t1 with
    |cons t1 _=>exact QT hK (bh (hS.e ct hK h1 e1)) e2 (λ_ _ _ p=>vF p h7) (ct.kU _ h3) (ct.md.bn _ h2) rfl t1.gl t1.mg t1.bt t1.nn t1.db (h1.star _)
   .
    cases h
  .
   cases h
 |tN h1 h2 h3 h4 h5=>
  unfold aN at h
  dsimp only at h
  split at h
  .
   rename_i r0 g1 e1
   split at h
   .
    rename_i d e2
    cases h
    obtain⟨t1,t2⟩:=Hw ct h5
    exact Kr hK (bh (hS.e ct hK h1 e1)) e2 t1 (by lia) (λ_ _ _ p=>rP p t2) (ct.kU _ h3) (ct.md.bn _ h2) rfl (h1.star _)
   .
    cases h
  .
   cases h
 |rev h1=>
  unfold aN at h
  dsimp only at h
  split at h
  .
   rename_i r0 g1 e1
   have q:=bh (hS.e ct hK h1 e1)
   split at h
   .
    rename_i l e4
    cases h
    rw[e4]at q
    exact K3 hK q
   .
    split at h
    .
     rename_i e5
     cases h
     exact K1 hK q e5
    .
     cases h
  .
   cases h
 |emp=>cases h;exact Ru
 |peek h1=>
  unfold aN at h
  dsimp only at h
  split at h
  .
   rename_i hb
   have hb:z.bor=[]:=List.isEmpty_iff.mp hb
   split at h
   .
    rename_i d g1 e1
    split at h
    .
     rename_i hf
     cases h
     exact Le hb hf (hS.e ct hK h1 (by rw[hb];exact e1))
    .
     cases h
   .
    cases h
  .
   cases h
 |stk=>cases h
 |@tQ a xa T l p pT pos h1 h2 h3 h4 h5=>
  unfold aN at h
  dsimp only at h
  obtain⟨db,cv,hcv,hn,hC⟩:=ct.md.ups _ _ h4
  have cls:∃w:V,(∀u,RelV w u->u=cv)/\PE X (.Name T pT) (tC w):=by
   rcases hcv with ⟨m1,D,rfl⟩ |⟨m1,m2,m3,n,rfl⟩
   .
    exact⟨.ref D,λu r=>r,yP (ct.kU _ h5) m1 rfl db⟩
   .
    exact⟨.ty n,λu r=>r,sy (ct.kU _ h5) (ct.md.bn _ m1) m3 rfl m2 db⟩
  obtain⟨w,hw,pw⟩:=cls
  split at h
  .
   rename_i r0 g1 e1
   split at h
   .
    rename_i C e2
    split at h
    .
     rename_i b e3
     cases h
     exact GF hK (bh (hS.e ct hK h1 e1)) e2 (λ_ _ _ _=>hC C b e3) (ct.kU _ h3) (ct.md.bn _ h2) rfl hw pw (h1.star _)
    .
     cases h
   .
    rename_i e2
    cases h
    exact GF hK (bh (hS.e ct hK h1 e1)) e2 (λ_ _ _ _=>hn) (ct.kU _ h3) (ct.md.bn _ h2) rfl hw pw (h1.star _)
   .
    cases h
  .
   cases h
 |@ig x f ir fi params body scope xb ca fp Cg pos h1 h2 h3 h4 h5 h6 h7 h8 h9=>
  unfold aN at h
  dsimp only at h
  split at h
  .
   rename_i fx k' e1
   split at h
   .
    rename_i ci Dt e2
    split at h
    .
     rename_i C e3
     split at h
     .
      rename_i r0 g3 e4
      split at h
      .
       rename_i r' e5
       cases h
       rcases h3 with ⟨rfl,h3⟩ |rfl
       .
        exact Mu hS hX hF ct hK h1 h2 h3 h4 h5 h6 h7 h8 h9 e1 e2 e3 e4 e5
       .
        exact nomatch e3
      .
       cases h
     .
      cases h
    .
     cases h
   .
    cases h
  .
   cases h
 |comp h1 h2 h3 h4 h5 h6 h7 h8=>
  unfold aN at h
  dsimp only at h
  split at h
  .
   rename_i acc g1 e1
   cases h
   obtain⟨items,g1,gE,w1,w2,w3,w4,w5,rfl⟩:=vU hS ct hK h3 h4 h5 h6 h7 h8 e1
   exact Kl (kD ct h1) ct.calm (by rw[ct.N];exact lQ h2) w1 w2 w3 w4 w5 λy=>h6.folded y
  .
   cases h
 |@d7 a xa lp p rp pos h1 h2 h3 h4 h5=>
  unfold aN at h
  dsimp only at h
  split at h
  .
   rename_i j g1 e1
   split at h
   .
    rename_i hj
    obtain⟨hj,hl⟩:=hj
    cases h
    simp only[Lk,aao,aaz]at hj
    have q:=Fz (z:=z) (lp:=lp) (pos:=pos) (rg_1 (p:=p) (rp:=rp) (cH (aV hS ct hK h1 e1) dU (h1.star _)) (ct.kU _ h3) (ct.md.bn _ h2) (h1.star _)) ct.calm (ct.kU _ h5) (ct.md.bn _ h4) rfl ⟨by lia,by lia,hj.1,hj.2⟩ (by rw[Int.sub_zero];exact hl)
    rw[Int.sub_zero]at q
    exact q
   .
    cases h
  .
   cases h
 |meth h1 h2 h3 h4=>
  subst h3
  unfold aN at h
  dsimp only at h
  split at h
  .
   rename_i r0 g1 e1
   split at h
   .
    rename_i d e2
    split at h
    .
     rename_i l e3
     split at h
     .
      rename_i r1 g2 e4
      split at h
      .
       rename_i d0 d1 p0 p1
       split at h
       .
        rename_i x e5
        cases h
        obtain⟨q1,q2,q3⟩:=Lq e3 (Lr (m:=_) e2 p0)
        exact KY hK q1 q2 q3 (bh (hS.e ct hK h1 e1)) e2 e3 (S9 (bh (hS.e ct hK h2 e4)) p1 (h2.star _)) p0 p1 (R0 hK ct.room e5) (h1.attr _) (tY h2) h4 (h2.star _)
       .
        cases h
      .
       cases h
     .
      cases h
    .
     cases h
   .
    cases h
  .
   cases h
 |qJ h1=>
  unfold aN at h
  dsimp only at h
  split at h
  .
   split at h
   .
    rename_i e1
    cases h
    cases h1 with
    |con h1=>cases h1 with
     |con h1=>exact nL (lR hS ct hK (.con (.con h1)) e1)
     |fmt h1 h2=>exact nL (lR hS ct hK (.con (.fmt h1 h2)) e1)
    |fmt h0 h1=>cases h1 with
     |con h1=>exact nL (lR hS ct hK (.fmt h0 (.con h1)) e1)
     |fmt h1 h2=>exact nL (lR hS ct hK (.fmt h0 (.fmt h1 h2)) e1)
   .
    cases h
  .
   cases h
 |append h1 h2 h3 h4 h5=>
  obtain⟨hd,bD⟩:=bR h3
  unfold aN at h
  dsimp only at h
  split at h
  .
   rename_i l0 e0
   split at h
   .
    rename_i d g1 e1
    split at h
    .
     rename_i l e2
     split at h
     .
      rename_i hl
      cases h
      exact Bb (by rw[ct.N];exact h1) (ct.vis h2) hd bD e0 (cH (aV hS ct hK h4 e1) dU (h4.star _)) e2 hl rfl (tY h4) h5 (h4.star _)
     .
      cases h
    .
     cases h
   .
    cases h
  .
   cases h
 |extend h1 h2 h3 h4 h5=>
  obtain⟨hd,bD⟩:=bR h3
  unfold aN at h
  dsimp only at h
  split at h
  .
   rename_i l0 e0
   split at h
   .
    rename_i d g1 e1
    split at h
    .
     rename_i l e2
     split at h
     .
      rename_i hl
      cases h
      exact Bm (by rw[ct.N];exact h1) (ct.vis h2) hd bD e0 (cH (aV hS ct hK h4 e1) dU (h4.star _)) e2 hl rfl (tY h4) h5 (h4.star _)
     .
      cases h
    .
     cases h
   .
    cases h
  .
   cases h
 |jr h1 h2 h3 h4 h5=>
  obtain⟨hd,bD⟩:=bR h3
  unfold aN at h
  dsimp only at h
  split at h
  .
   rename_i l0 e0
   split at h
   .
    rename_i j g1 e1
    split at h
    .
     rename_i l e2
     split at h
     .
      rename_i n e3
      split at h
      .
       rename_i d e4
       split at h
       .
        rename_i hl
        cases h
        exact Fc (by rw[ct.N];exact h1) (ct.vis h2) hd bD e0 (cH (aV hS ct hK h4 e1) dU (h4.star _)) e2 e3 e4 hl rfl (tY h4) h5 (h4.star _)
       .
        cases h
      .
       cases h
     .
      cases h
    .
     cases h
   .
    cases h
  .
   cases h
end
section
variable{P:Pg}{rn:Rn}{k:Nat}{X:Cx}{c:Ct}{z:Z}
theorem Hz(hS:jK P rn)(ct:bf P k X c)(hK:z.K=X.K){e:Expr}{x:Ex}{g g':G}{b:Bool}(hc:Cm P c e x)(h:stepT rn z.bor k x g=some (b,g')):cz X z e g b g':=by
 have plain:(match rn.e z.bor k x g with |some (r,g1)=>(match pk (norm r) g1 with |some d=>(match Kp d with |some c=>some (c,g1) |none=>none) |none=>none) |none=>none)=some (b,g')->
   (∀whole,isTrue e X.env whole=(do let v <- whole;standAt e.pos;holding [v] (truthy v)))->cz X z e g b g':=by
  intro h he
  split at h
  .
   rename_i r g1 e1
   split at h
   .
    rename_i d e2
    split at h
    .
     rename_i b' e3
     cases h
     exact Fy hK (bh (hS.e ct hK hc e1)) e2 e3 he
    .
     cases h
   .
    cases h
  .
   cases h
 cases hc.out with
 |int=>exact plain h λ_=>rfl
 |bool=>exact plain h λ_=>rfl
 |none=>exact plain h λ_=>rfl
 |str=>exact plain h λ_=>rfl
 |var h1 h2 h3=>exact plain h λ_=>rfl
 |glob h1 h2=>exact plain h λ_=>rfl
 |bin h1 h2=>exact plain h λ_=>rfl
 |cmp h1 h2 h3=>
  unfold stepT at h
  dsimp only at h
  split at h
  .
   rename_i r1 r2 g2 e1
   obtain⟨s1,s2,g1,q1,q2,q3⟩:=iT e1
   cases q3
   split at h
   .
    rename_i d1 d2 p1 p2
    split at h
    .
     rename_i r0 e3
     cases h
     exact Qm (bh (hS.e ct hK h1 q1)) (bh (hS.e ct hK h2 q2)) p1 p2 (jE hK ct.room e3) h3
    .
     cases h
   .
    cases h
  .
   cases h
 |chain h1 h2 h3=>
  unfold stepT at h
  dsimp only at h
  split at h
  .
   rename_i d1 g1 e1
   exact Fv (aV hS ct hK h1 e1) (yq hS ct hK h2 h) h3
  .
   cases h
 |neg h1=>exact plain h λ_=>rfl
 |not h1=>
  unfold stepT at h
  dsimp only at h
  split at h
  .
   rename_i b' g1 e1
   cases h
   exact Qn (hS.t ct hK h1 e1)
  .
   cases h
 |and h1=>exact (vQ hS ct hK h1 h).tr
 |or h1=>exact (zR hS ct hK h1 h).tr
 |ite h1 h2 h3=>cases h
 |tup h1=>exact plain h λ_=>rfl
 |lst h1=>exact plain h λ_=>rfl
 |ix h1 h2=>exact plain h λ_=>rfl
 |slice h1 h2 h3=>exact plain h λ_=>rfl
 |call h1 h2 h3 h4=>exact plain h λ_=>rfl
 |blt h1 h2 h3 h4=>exact plain h λ_=>rfl
 |qH h1 h2 h3 h4 h5 h6 h7=>exact plain h λ_=>rfl
 |tN h1 h2 h3 h4 h5=>exact plain h λ_=>rfl
 |tQ h1 h2 h3 h4 h5=>exact plain h λ_=>rfl
 |rev h1=>exact plain h λ_=>rfl
 |emp=>exact plain h λ_=>rfl
 |peek h1=>exact plain h λ_=>rfl
 |stk=>exact plain h λ_=>rfl
 |ig h1 h2 h3 h4 h5 h6 h7 h8 h9=>exact plain h λ_=>rfl
 |comp h1 h2 h3 h4 h5 h6 h7 h8=>exact plain h λ_=>rfl
 |d7 h1 h2 h3 h4 h5=>exact plain h λ_=>rfl
 |meth h1 h2 h3 h4=>exact plain h λ_=>rfl
 |qJ h1=>exact plain h λ_=>rfl
 |append h1 h2 h3 h4 h5=>exact plain h λ_=>rfl
 |extend h1 h2 h3 h4 h5=>exact plain h λ_=>rfl
 |jr h1 h2 h3 h4 h5=>exact plain h λ_=>rfl
theorem zW(ct:bf P k X c):PassesOwn (model X.prog X.w) X.A X.env X.xe:=by rw[ct.xe];exact PassesOwn.never
theorem pU{T:Tg}{body:List Stmt}{b:G->Option (Fl×G)}(hb:∀{g g':G}{f:Fl},b g=some (f,g')->dW X z body g f g'):∀{items:List D}{g g':G}{f:Fl},mR T b items g=some (f,g')->eK X z body T items g f g'
 | [],_,_,_,h=>by cases h;exact .nil
 |d::l,_,_,_,h=>by
  unfold mR at h
  split at h
  .
   cases h
  .
   rename_i g0 e0
   split at h
   .
    cases h
   .
    rename_i g1 e1;exact .next e0 (hb e1) (pU hb h)
   .
    rename_i g1 e1;exact .cont e0 (hb e1) (pU hb h)
   .
    rename_i g1 e1;cases h;exact .brk e0 (hb e1)
   .
    rename_i g1 e1;cases h;exact .ret e0 (hb e1)
theorem yu{ce:Expr}{body:List Stmt}{t:G->Option (Bool×G)}{b:G->Option (Fl×G)}(ht:∀{g g':G}{v:Bool},t g=some (v,g')->cz X z ce g v g')(hb:∀{g g':G}{f:Fl},b g=some (f,g')->dW X z body g f g') :
  ∀{n:Nat}{g g':G}{f:Fl},Oc t b n g=some (f,g')->nB X z ce body n g f g'
 | 0,_,_,_,h=>by cases h
 |n+1,_,_,_,h=>by
  unfold Oc at h
  split at h
  .
   cases h
  .
   rename_i g1 e1;cases h;exact .done (ht e1)
  .
   rename_i g1 e1
   split at h
   .
    cases h
   .
    rename_i g2 e2;exact .next (ht e1) (hb e2) (yu ht hb h)
   .
    rename_i g2 e2;exact .cont (ht e1) (hb e2) (yu ht hb h)
   .
    rename_i g2 e2;cases h;exact .brk (ht e1) (hb e2)
   .
    rename_i g2 e2;cases h;exact .ret (ht e1) (hb e2)
theorem fY{P:Pg}{c:Ct}{e:Expr}{x:Ex}(h:Cm P c e x)(hn:∀a b s p,e≠.ListComp a b s p)(t:Option Expr)(l:Nat)(env:Env):swapsWith e t l env=pure false:=by
 have hs:=h.Ho
 cases e <;> first |rfl |exact absurd rfl (hn _ _ _ _) |exact Bool.noConfusion (show false=true from hs)
theorem vV(ct:bf P k X c)(iQ:c.df=true){a:Expr}{b:List Comprehension}{s:Scope}{p py:Pos}{y:Str}{l:Nat}(hl:jg c y=true):swapsWith (.ListComp a b s p) (some (.Name y py)) l X.env=pure (Vc c y py p s):=by
 show (pure (X.env.blockKind==.function&&X.env.kindOf y==some .local&&py.line==(Expr.ListComp a b s p).pos.line&&!(s.names.any λ(n,k)=>n==y&&(k==.local||k==.cell))):Sem Bool)=_
 rw[ct.bk iQ]
 have e:(X.env.kindOf y==some .local)=(c.sc.names.lookup y==some .local):=by
  unfold jg at hl
  split at hl
  .
   rename_i e;rw[e];show (X.env.scope.names.lookup y==_)=_;rw[ct.Vb y e]
  .
   rename_i e;rw[e];show (X.env.scope.names.lookup y==_)=_;rw[ct.Y7 iQ y e]
  .
   cases hl
 rw[e]
 rfl
noncomputable def Tc:Expr->Bool
 |.Starred ..=>true
 |_=>false
theorem HB{e:Expr}{x:Ex}(h:Cm P c e x):Tc e=false:=by
 have hs:=h.Ho
 cases e <;> first |rfl |exact Bool.noConfusion (show false=true from hs)
theorem HD{e:Expr}{xe:Ex}{x y:Str}{ix iy:Expr}{pn Ds bM gY pt:Pos}{kt:Nat}{env:Env}(h:Cm P c e xe):swappedStores [.Tuple [.Subscript (.Name x pn) ix bM,.Subscript (.Name y Ds) iy gY] kt pt] e env=pure none:=by
 have hs:=h.Ho
 cases e with
 |Tuple es k p=>
  show (if _ then _ else _:Sem (Option (List Str)))=_
  split
  .
   rfl
  .
   split
   .
    rfl
   .
    exact aav rfl
 |_=>first |rfl |exact Bool.noConfusion (show false=true from hs)
theorem yw{x:Str}{pn bM:Pos}{ix:Expr}{xi:Ex}{X:Cx}(h:Cm P c ix xi):∀v,assign (.Subscript (.Name x pn) ix bM) X.env v=(do
   let ov <- holding [v] (eval (.Name x pn) X.env)
   let iv <- holding [v,ov] (eval ix X.env)
   standAt bM
   holding [v,ov,iv] (setItem ov iv v)
   release [v,ov,iv] []):=by
 have hs:=h.Ho
 cases ix <;> first |exact λ_=>rfl |exact Bool.noConfusion (show false=true from hs)
theorem Td{es:List Expr}{k0:Nat}{pt:Pos}{e:Expr}{x:Ex}{env:Env}(h:Cm P c e x)(hn:∀vs k p,e≠.Tuple vs k p):swappedStores [.Tuple es k0 pt] e env=pure none:=by
 have hs:=h.Ho
 cases e <;> first |rfl |exact absurd rfl (hn _ _ _) |exact Bool.noConfusion (show false=true from hs)
theorem Te{es:List Expr}{k0:Nat}{pt:Pos}{e:Expr}(ct:bf P k X c)(h:GR c es e=true):swappedStores [.Tuple es k0 pt] e X.env=pure none:=by
 unfold GR at h
 split at h
 .
  rename_i ea eb
  obtain⟨h1,h2⟩:=aj h
  obtain⟨h3,h4⟩:=aj h2
  split at h4
  .
   rename_i x ex
   split at h4
   .
    rename_i y ey
    obtain⟨px,rfl⟩:∃p,ea=.Name x p:=by cases ea <;> first | (cases ex;exact⟨_,rfl⟩) |cases ex
    obtain⟨py,rfl⟩:∃p,eb=.Name y p:=by cases eb <;> first | (cases ey;exact⟨_,rfl⟩) |cases ey
    obtain⟨vs,k2,wU,rfl,hv⟩:∃vs k p,e=.Tuple vs k p/\vs.length=2:=by cases e <;> first |exact⟨_,_,_,rfl,aaH h1⟩ |cases h1
    obtain⟨a,b,rfl⟩:∃a b,vs=[a,b]:=by
     match vs,hv with
     | [a,b],_=>exact⟨a,b,rfl⟩
    have hn:(X.env.kindOf x==some NameKind.local)=false\/(X.env.kindOf y==some NameKind.local)=false:=by
     rcases Bool.or_eq_true_iff.mp h4 with h2 |h2
     .
      exact .inl (by have hx:X.env.kindOf x=some .cell:=ct.Y7 h3 x (aaH h2);rw[hx];rfl)
     .
      exact .inr (by have hx:X.env.kindOf y=some .cell:=ct.Y7 h3 y (aaH h2);rw[hx];rfl)
    show (if _ then _ else _:Sem (Option (List Str)))=_
    split
    .
     rfl
    .
     show (if _ then _ else _:Sem (Option (List Str)))=_
     split
     .
      rfl
     .
      show (if _ then _ else _:Sem (Option (List Str)))=_
      rw[aav]
      rcases hn with hn |hn
      .
       simp only[aa0,List.filterMap_nil,hn,Bool.false_and,Bool.false_eq_true,if_false]
       split <;> simp
      .
       simp only[aa0,List.filterMap_nil,hn,Bool.false_and,Bool.false_eq_true,if_false]
       split <;> simp
   .
    cases h4
  .
   cases h4
 .
  cases h
theorem Tf{es:List Expr}{k0:Nat}{pt:Pos}{e:Expr}{x:Ex}(ct:bf P k X c)(h:Cm P c e x)(hn:(∀vs k p,e≠.Tuple vs k p)\/GR c es e=true):swappedStores [.Tuple es k0 pt] e X.env=pure none:=
 hn.elim (Td h) (Te ct)
theorem Ti{y:Str}{pn bM:Pos}{ix e:Expr}{x:Ex}{env:Env}(h:Cm P c e x):swappedStores [.Subscript (.Name y pn) ix bM] e env=pure none:=by
 have hs:=h.Ho
 cases e <;> first |rfl |exact Bool.noConfusion (show false=true from hs)
theorem Tj{x y:Str}{a b:Expr}{px py pt wU:Pos}{kt k2:Nat}{xa xb:Ex}(ct:bf P k X c)(h:Lv c x y px py a b=true)(ca:Cm P c a xa)(cb:Cm P c b xb):X.env.scope.names.lookup x=some .local/\X.env.scope.names.lookup y=some .local/\
  swappedStores [.Tuple [.Name x px,.Name y py] kt pt] (.Tuple [a,b] k2 wU) X.env=pure (some [x,y]):=by
 unfold Lv at h
 simp only[aao]at h
 obtain⟨⟨⟨⟨⟨⟨h1,h2⟩,h3⟩,h4⟩,h5⟩,h6⟩,h7⟩:=h
 have e1:=ct.Vb x (eq_of_beq h1)
 have e2:=ct.Vb y (eq_of_beq h2)
 refine⟨e1,e2,?_⟩
 have hb:=ct.bk h7
 have sa:=HB ca
 have sb:=HB cb
 have k1:X.env.kindOf x=some .local:=e1
 have U5:X.env.kindOf y=some .local:=e2
 have hxy:(y==x)=false:=by
  simp only[aco]at h4
  rw[beq_eq_false_iff_ne]at h4 ⊢
  exact λe=>h4 e.symm
 have h3':py.line=px.line:=eq_of_beq h3
 show (if _ then _ else _:Sem (Option (List Str)))=_
 rw[aau (by rw[hb];simp)]
 show (if _ then _ else _:Sem (Option (List Str)))=_
 rw[aau (by show ¬ ((Tc a||(Tc b||false))=true);rw[sa,sb];decide)]
 show (if _ then _ else _:Sem (Option (List Str)))=_
 dsimp only
 generalize hq:List.filterMap _ [Expr.Name x px,Expr.Name y py]=ns
 have hn:ns=[x,y]:=by
  rw[<- hq]
  have l0:(([Expr.Name x px,Expr.Name y py].head?.map (·.pos.line)).getD 0)=px.line:=rfl
  simp[aa0,k1,U5,h3',Expr.pos]
 subst hn
 have hd:[x,y].eraseDups.length=2:=by
  have ji:y≠x:=beq_eq_false_iff_ne.mp hxy
  simp[List.eraseDups_cons,List.filter_cons,ji]
 rw[aau (by rw[hd];simp)]
 show (if _ then _ else _:Sem (Option (List Str)))=_
 rw[aau (by show ¬ ((foldedForSure 8 a&&(foldedForSure 8 b&&true))=true);rw[Bool.and_true];intro z;rw[z]at h5;exact absurd h5 (by decide))]
 show (if _ then _ else _:Sem (Option (List Str)))=_
 rw[aau (by show ¬ ((constantsAlone 8 a&&(constantsAlone 8 b&&true))=true);rw[Bool.and_true];intro z;rw[z]at h6;exact absurd h6 (by decide))]
theorem pW(hS:jK P rn)(ct:bf P k X c)(iQ:c.df=true)(hK:z.K=X.K){s:Stmt}{x:Sm}{g g':G}{f:Fl}(hc:Mm P c s x)(h:aF rn z.bor k x g=some (f,g')):fU X z s g f g':=by
 cases hc.out with
 |ret h1=>
  unfold aF at h
  dsimp only at h
  split at h
  .
   rename_i r g1 e1;cases h;exact QZ (hS.e ct hK h1 e1)
  .
   cases h
 |expr h1 h2=>
  unfold aF at h
  dsimp only at h
  split at h
  .
   rename_i r g1 e1;cases h;exact J7 (hS.e ct hK h1 e1) (fY h1 h2 _ _ _)
  .
   cases h
 |@set y i e x py pos h1 h2 h3 h4=>
  have nm:=ct.nm h1 h2
  have hsw:swapsWith e (some (.Name y py)) pos.line X.env=pure false:=by
   by_cases hn:∀a b s p,e≠.ListComp a b s p
   .
    exact fY h3 hn _ _ _
   .
    have:∃a b s p,e=.ListComp a b s p:=Classical.byContradiction λq=>hn λa b s p e=>q ⟨a,b,s,p,e⟩
    obtain⟨a,b,s,p,rfl⟩:=this
    rw[vV ct iQ h2,h4 a b s p rfl]
  unfold aF at h
  dsimp only at h
  split at h
  .
   cases h
  .
   rename_i hb
   split at h
   .
    rename_i l g1 e1
    split at h
    .
     rename_i hl
     cases h
     exact J9 nm.nd nm.ix nm.lc (hS.e ct hK h3 e1) hl hsw nm.fn hb
    .
     cases h
   .
    rename_i r g1 _ e1
    split at h
    .
     rename_i d g2 e2
     cases h
     exact J8 nm.nd nm.ix nm.lc (Hq (hS.e ct hK h3 e1) e2) hsw nm.fn hb
    .
     cases h
   .
    cases h
 |@setC y i a b s p n kk T it co x py pos h1 h2 h3=>
  have hl:c.sc.names.lookup y=some .local:=by
   unfold Vc at h2
   simp only[aao]at h2
   exact eq_of_beq h2.1.1
  have d9:jg c y=true:=by unfold jg;rw[hl]
  have nm:=ct.nm h1 d9
  unfold aF at h
  dsimp only at h
  split at h
  .
   cases h
  .
   rename_i hb
   split at h
   .
    rename_i acc g1 e1
    split at h
    .
     rename_i hi
     cases h
     cases h3.out with
     |comp k1 k2 k3 k4 k5 k6 k7 k8=>
      obtain⟨items,g1,gE,w1,w2,w3,w4,w5,rfl⟩:=vU hS ct hK k3 k4 k5 k6 k7 k8 e1
      exact Km (kD ct k1) ct.calm (by rw[ct.N];exact lQ k2) w1 w2 w3 w4 w5 nm.nd nm.ix (ct.Vb _ hl) hb hi (by rw[vV ct iQ d9,h2]) λy=>k6.folded y
    .
     cases h
   .
    cases h
 |@tgt es k0 pt pos T e x h1 h2 h3 h4=>
  unfold aF at h
  dsimp only at h
  split at h
  .
   cases h
  .
   rename_i hb
   split at h
   .
    rename_i d g1 e1
    split at h
    .
     rename_i g2 e2
     cases h
     obtain⟨t,q,kt⟩:=Hu (z:=z) ct hK h1 λi hi hm=>hb (by rw[List.any_eq_true];exact⟨i,hi,abP hm⟩)
     obtain⟨te,qe,ke⟩:=aV hS ct hK h2 e1
     have hsw:swapsWithSole [.Tuple es k0 pt] e pos.line X.env=pure false:=fY h2 h4 (some (.Tuple es k0 pt)) pos.line X.env
     have d9:swappedStores [.Tuple es k0 pt] e X.env=pure none:=Tf ct h2 h3
     refine⟨_,wR qe q hsw d9 rfl,λσ As M H E s k2=>ke σ As M H _ s λv H1 aM M1 s1 cO R=>?_⟩
     exact kt d g1 _ e2 v σ aM M1 H1 _ s1 R λσ' aB s' _=>k2 σ' aB M1 H1 s' cO
    .
     cases h
   .
    cases h
 |@item y i ix e xj x pn bM pos h1 h2 h3 h4 h5 h6=>
  obtain⟨hd,bD⟩:=bR h3
  unfold aF at h
  dsimp only at h
  split at h
  .
   rename_i d g1 e1
   split at h
   .
    rename_i l0 e2
    split at h
    .
     rename_i n g2 e3
     split at h
     .
      rename_i l e4
      split at h
      .
       rename_i m e5
       cases h
       have hsw:swapsWithSole [.Subscript (.Name y pn) ix bM] e pos.line X.env=pure false:=fY h5 h6 (some (.Subscript (.Name y pn) ix bM)) pos.line X.env
       have d9:swappedStores [.Subscript (.Name y pn) ix bM] e X.env=pure none:=Ti h5
       exact Ka (by rw[ct.N];exact h1) (ct.vis h2) hd bD (aV hS ct hK h5 e1) e2 (aV hS ct hK h4 e3) e4 e5 (yw h4) hsw d9 rfl
      .
       cases h
     .
      cases h
    .
     cases h
   .
    cases h
  .
   cases h
 |@par x y i j a b xa xb px py pt wU pos kt k2 h1 h2 h3 h4 h5 h6=>
  unfold aF at h
  dsimp only at h
  split at h
  .
   cases h
  .
   rename_i hbi
   split at h
   .
    cases h
   .
    rename_i hbj
    split at h
    .
     rename_i d1 d2 g1 e1
     cases h
     obtain⟨w1,w2,w3⟩:=Tj (k2:=k2) (kt:=kt) (pt:=pt) (wU:=wU) ct h4 h5 h6
     exact Rr ct.calm (ct.N▸ct.nd) (by rw[ct.N];exact h1) (by rw[ct.N];exact h2) h3 w1 w2 (iL hS ct hK (.cons h5 (.cons h6 .nil)) e1) hbi hbj w3 rfl
    .
     cases h
 |@items2 x y i j ix iy e xi yi xe pn Ds bM gY pt pos kt h1 h2 h3 h4 h5 h6 h7 h8 h9 h10=>
  obtain⟨hd,bD⟩:=bR h3
  obtain⟨hd2,Rt⟩:=bR h6
  unfold aF at h
  dsimp only at h
  split at h
  .
   rename_i d1 d2 g1 e1
   split at h
   .
    rename_i l0 e2
    split at h
    .
     rename_i n1 g2 e3
     split at h
     .
      rename_i l e4
      split at h
      .
       rename_i m1 e5
       split at h
       .
        rename_i l1 e6
        split at h
        .
         rename_i n2 g3 e7
         split at h
         .
          rename_i l2 e8
          split at h
          .
           rename_i m2 e9
           cases h
           have hsw:swapsWithSole [.Tuple [.Subscript (.Name x pn) ix bM,.Subscript (.Name y Ds) iy gY] kt pt] e pos.line X.env=pure false:=fY h9 h10 (some (.Tuple [.Subscript (.Name x pn) ix bM,.Subscript (.Name y Ds) iy gY] kt pt)) pos.line X.env
           exact BG ct.calm hK (by rw[ct.N];exact h1) (ct.vis h2) hd bD (by rw[ct.N];exact h4) (ct.vis h5) hd2 Rt (aV hS ct hK h9 e1) e2 (aV hS ct hK h7 e3) e4 e5 e6 (aV hS ct hK h8 e7) e8 e9 (yw h7) (yw h8) hsw (HD h9)
          .
           cases h
         .
          cases h
        .
         cases h
       .
        cases h
      .
       cases h
     .
      cases h
    .
     cases h
   .
    cases h
  .
   cases h
 |ite h1 h2 h3=>
  unfold aF at h
  dsimp only at h
  split at h
  .
   rename_i g1 e1;exact N3 (hS.t ct hK h1 e1) (by rw[aav rfl];exact hS.b ct iQ hK h2 h)
  .
   rename_i g1 e1;exact N3 (hS.t ct hK h1 e1) (by rw[aau aaF];exact hS.b ct iQ hK h3 h)
  .
   cases h
 |loop h1 h2 h3=>
  unfold aF at h
  dsimp only at h
  split at h
  .
   cases h
  .
   rename_i hb
   split at h
   .
    rename_i items g1 e1
    exact Q8 (zW ct) ct.calm (Hs hS ct hK (Oo h1) h2 e1) (Hu ct hK h1 λi hi hm=>hb (by rw[List.any_eq_true];exact⟨i,hi,abP hm⟩)) (pU (λe=>hS.b ct iQ hK h3 e) h) λy=>h2.folded y
   .
    cases h
 | «while» h1 h2=>exact Fw (zW ct) (yu (λe=>hS.t ct hK h1 e) (λe=>hS.b ct iQ hK h2 e) h)
 |raise h1 h2 h3=>cases h
 |stuck=>cases h
theorem yx(hS:jK P rn)(ct:bf P k X c)(iQ:c.df=true)(hK:z.K=X.K){ss:List Stmt}{x:Sm}{g g':G}{f:Fl}(h:Mf P (Cm P c) (Mm P c) c ss x)(e:aF rn z.bor k x g=some (f,g')):pH X z ss g f g':=by
 cases h with
 |@mk y v fx ic fi ir l ls e0 es ss st scope N' kb j fV op rhs ret b py lp pos fp vp cp tp ip Ji cmp h1 h2 h3 h4 h5 h6 h7 h8 h9 h10 h11=>
  unfold aF at e
  dsimp only at e
  split at e
  .
   rename_i hg
   split at e
   .
    rename_i ds gx e1
    split at e
    .
     rename_i r2 g2 e2
     split at e
     .
      rename_i d2 p2
      split at e
      .
       rename_i cc e3
       obtain⟨ds',hr,⟨q,cc0,mk⟩,hm,he⟩:=hS.g (fp:=fp) (vp:=vp) (cp:=cp) ct hK h6 h8 e1
       cases hr
       obtain⟨dy,cdy⟩:=bR h4
       have hN:X.N[ic]?=some y:=by rw[ct.N];exact h1
       have vy:=ct.vis h3
       have Vf:=ct.nm h1 h2
       have Ot:∃t,PE X (.ListComp (.Call (.Name fx fp) [.Name v vp] [] cp) [⟨.Name v tp,.Name y ip,[],0⟩] scope Ji) t/\∀σ H M0 H0 Q,LL X z g je ic M0 H0 (l::ls) σ H->Kn z g σ M0 H0 (.new ds) Q->t σ H Q:=by
        refine vq h8.lt (by rw[ct.N];exact lQ h8.nm) (kD ct h8.bl) ct.calm hN vy dy cdy (λbk=>(ct.blk h8.nd bk).nm (by rw[ct.N];exact h8.ix) h8.st) (by simp only[aaQ];lia) he
       have JM:=bh (hS.e ct hK h9 e2)
       cases h11 with
       |ite hs=>
        rename_i s1 x1 ipos
        rw[aau (by decide)]at e
        refine mO hK mk Vf.nd hN Vf.lc Vf.fn vy dy cdy hg h5 hm h7 (GJ Ot JM p2 (jE hK ct.room e3) h10 ?_)
        cases cc with
        |true=>
         rw[aav rfl]at e
         exact hS.b ct iQ hK (.cons hs .nil) e
        |false=>
         rw[aau (by decide)]at e
         cases e
         exact EY
       |ret=>
        rw[aav rfl]at e
        cases e
        exact mO hK mk Vf.nd hN Vf.lc Vf.fn vy dy cdy hg h5 hm h7 (BX Ot JM p2 (jE hK ct.room e3) h10)
      .
       cases e
     .
      cases e
    .
     cases e
   .
    cases e
  .
   cases e
theorem pX(hS:jK P rn)(ct:bf P k X c)(iQ:c.df=true)(hK:z.K=X.K):∀{jk:List Stmt}{xs:List Sm}{g g':G}{f:Fl},Om P c jk xs->fH rn z.bor k xs g=some (f,g')->dW X z jk g f g'
 |_,_,_,_,_,.nil,h=>by cases h;exact EY
 |_,_,_,_,f,.grp h1 h2,h=>by
  unfold fH at h
  split at h
  .
   rename_i g1 e1;exact (yx hS ct iQ hK h1 e1).bk (pX hS ct iQ hK h2 h)
  .
   rename_i hn e1
   cases h
   exact (yx hS ct iQ hK h1 e1).end λe=>hn e
  .
   cases h
 |_,_,_,_,f,.cons h1 h2,h=>by
  unfold fH at h
  split at h
  .
   rename_i g1 e1;exact J6 (pW hS ct iQ hK h1 e1) (pX hS ct iQ hK h2 h)
  .
   rename_i hn e1
   cases h
   have q:=pW hS ct iQ hK h1 e1
   cases f with
   |nx=>exact absurd rfl hn
   |rt r=>exact QV q
   |bk=>exact QW q
   |ct=>exact QX q
  .
   cases h
end
theorem Mw{P:Pg}{k:Nat}{prog:Program}{w:World}{K:Frag}{mg:Str->Option Value}{base:Heap}{N ps:List Str}{qual:Str}{scope:Scope}{f:Addr}{bB:Value}{A:Around}{outer:List Env}{s:Shared}{H:Hp}{E:XK}
  (S:bV N ps scope) (md:tR P K mg) (bD:PySem.W.codeIn K bB qual=true) (hr:cu k (A.deeper (envOfC qual scope s⁻¹ f bB))):Mq P k (fL (Dr prog w) prog w K mg base N qual scope f bB A outer s H E) ⟨N,scope,true,qual⟩:=by
 refine⟨⟨rfl,S.nd,λx e=>e,λx e=>e,λx e=>e,λ_ x e=>e,λx _=>rfl,λ_=>?_,rfl,rfl,md,hr,λe h=>⟨by have e:qual = "_law_refusals_right" :=e;subst e;rfl,md.lam h _ (by have e:qual = "_law_refusals_right" :=e;exact e▸bD)⟩⟩,rfl,PassesOwn.leaving⟩
 show (if scope.kind.isAnnotationScope then ScopeKind.function else scope.kind)=.function
 rw[S.kind]
 rfl
section
variable{P:Pg}{rn:Rn}{k:Nat}{X:Cx}{c:Ct}{z:Z}{ci:Nat}{C:Addr}{pos p:Pos}
theorem pY(hS:jK P rn)(hX:nD P rn)(cx:Mq P k X c)(hK:z.K=X.K)(hC:jv P X.mg ci C):∀{es:List Expr}{xs:List Ex}{g g':G},Dy P c es xs->xArgs rn z.bor k xs g=some (ci,g')->WQ X z es g C g'
 |_,_,_,_,.nil,h=>by cases h
 |_,_,_,_,.cons h1 h2,h=>by
  unfold xArgs at h
  split at h
  .
   rename_i e1;cases h;exact Kw (hX.x cx hK hC h1 e1) (h1.star _)
  .
   split at h
   .
    rename_i r g1 e1;exact Ky (hS.e (X:=X.mj) cx.ct hK h1 e1).lift (pY hS hX cx hK hC h2 h) (h1.star _)
   .
    cases h
theorem HF(hS:jK P rn)(hX:nD P rn){fns:List Fx}(hF:g5 P fns)(cx:Mq P k X c)(hK:z.K=X.K)(hC:jv P X.mg ci C){e:Expr}{x:Ex}{g g':G}(hc:Cm P c e x)(h:vE rn z.bor k fns x g=some (ci,g')):FJ X z e g C g':=by
 have ct:=cx.ct
 cases hc.out with
 |@call x f fi e es xs p pos h1 h2 h3 h4=>
  subst h2
  have d9:starEach (e::es) X.env=(false,eval e X.env)::starEach es X.env:=by cases h4 with |cons hh _=>exact hh.star _
  have iu:(backTo pos (starEach es X.env)).any (·.1)=false:=by cases h4 with |cons _ hh=>exact hh.plain
  obtain⟨fa,fd,hm,Vg,S8,hB,jy⟩:=ct.md.fn _ fi h1
  unfold vE at h
  dsimp only at h
  split at h
  .
   rename_i r e1
   cases h
   cases k with
   |zero=>
    have F:iW X.prog X.w X.K X.mg X.base uB (0+1) fa fd fi.ps (Kc X.K fi.N fi.ps.length λ_ _ _ _=>False):=zp Vg S8 λ_ _ _ _ _ _ _ _ _ _ _ _ _ h=>h.elim
    obtain⟨t,q,kk⟩:=pY hS hX cx hK hC h4 e1
    refine⟨_,?_,λσ As M H Q s ac=>kk σ As M H (λ_ _=>False) s ac⟩
    intro ah s σ H Q I ht
    refine abd (fE I (ct.kU _ h3) hm ?_ jy)
    exact abS (h₀:=X.base) I.ok.mod.Dl Vg.kp (bN (q pos ah s σ H _ I ht) λus s1 ⟨_,_,_,_,h⟩=>h.elim) d9 iu
   |succ k'=>
    have F:iW X.prog X.w X.K X.mg X.base uB (k'+1) fa fd fi.ps (Kc X.K fi.N fi.ps.length λ_ _ _ _=>False):=zp Vg S8 λ_ _ _ _ _ _ _ _ _ _ _ _ _ h=>h.elim
    exact FQ F (pY hS hX cx hK hC h4 e1) ct.room (ct.kU _ h3) hm Vg.kp hB jy d9 iu
  .
   cases uA:fns[f]? with
   |none=>rw[uA]at h;cases h
   |some fx=>
    rw[uA]at h
    cases k with
    |zero=>cases h
    |succ k'=>
     dsimp only at h
     split at h
     .
      rename_i rs g1 e1
      have Tp:=hF _ _ _ h1 uA
      have F:iW X.prog X.w X.K X.mg X.base (Dr X.prog X.w) (k'+1) fa fd fi.ps (SpX X.K fi.N fi.ps.length λbor g C g'=>∃ci,jv P X.mg ci C/\rn.xb bor k' fx.body g=some (ci,g')):=by
       refine Rl Vg S8 λbB A outer s H E bD hr z' g C g' U9 ⟨ci,hci,hrun⟩=>?_
       exact hX.b (Mw S8 ct.md bD hr) rfl U9 hci Tp.body hrun
      unfold pK at h
      split at h
      .
       rename_i hl
       split at h
       .
        cases h
       .
        rename_i gs e2
        split at h
        .
         rename_i ci' gc e3
         split at h
         .
          rename_i gO e4
          cases h
          have ha:=kF hS (X:=X.mj) ct hK h4 e1
          have ha':cG X z (e::es) g rs g1:=by
           obtain⟨t,q,kk⟩:=ha
           refine⟨t,λpos ah s σ H Q I hw=>?_,kk⟩
           exact aaN (q pos ah s σ H Q (I.wish _) hw) (λ_ _ ⟨v,H',I',r,q⟩=>⟨v,H',I'.cP,r,q⟩) λ_ _ z=>False.elim z
          exact KH F hK cx.ex ct.room (ct.kU _ h3) hm Vg.kp hB ha' (by rw[hl.1,Tp.np]) e2 hl.2 ⟨ci,hC,by rw[<- Tp.n];exact e3⟩ e4 jy d9 iu
         .
          cases h
        .
         cases h
      .
       cases h
     .
      cases h
 |_=>cases h
theorem Cq(hX:nD P rn)(cx:Mq P k X c)(hK:z.K=X.K)(hC:jv P X.mg ci C){e:Expr}{x:Ex}{g g':G}(hc:Cm P c e x)(h:lK rn z.bor k x g=some (ci,g')):U3 X z e g C g':=by
 cases hc.out with
 |not h1=>exact Kv (hX.t cx hK hC h1 h)
 |call h1 h2 h3 h4=>exact Ri (hX.x cx hK hC hc h) λ_=>rfl
 |_=>cases h
theorem fU.lift{st:Stmt}{g g':G}{f:Fl}(h:fU X.mj z st g f g'):fU X z st g f g':=by
 obtain⟨t,q,k⟩:=h
 refine⟨t,λah s σ H D I hw=>?_,k⟩
 exact aaN (q ah s σ H D (I.wish _) hw) (λ_ _ q=>q.cP) λ_ _ z=>False.elim z
theorem Cr(hS:jK P rn)(hX:nD P rn)(cx:Mq P k X c)(iQ:c.df=true)(hK:z.K=X.K)(hC:jv P X.mg ci C){s:Stmt}{x:Sm}{g g':G}(hc:Mm P c s x)(h:gQ rn z.bor k x g=some (ci,g')):Rh X z s g C g':=by
 have ct:=cx.ct
 cases hc.out with
 |ret h1=>exact Rj (hX.x cx hK hC h1 h)
 |expr h1 h2=>exact Kz (hX.x cx hK hC h1 h) (fY h1 h2 _ _ _)
 |ite h1 h2 h3=>
  unfold gQ at h
  dsimp only at h
  split at h
  .
   rename_i e1;cases h;exact Rk (hX.t cx hK hC h1 e1)
  .
   split at h
   .
    rename_i g1 e1;exact FN (v:=true) (hS.t (X:=X.mj) ct hK h1 e1).lift (by rw[aav rfl];exact hX.b cx iQ hK hC h2 h)
   .
    rename_i g1 e1;exact FN (v:=false) (hS.t (X:=X.mj) ct hK h1 e1).lift (by rw[aau aaF];exact hX.b cx iQ hK hC h3 h)
   .
    cases h
 |@raise x ci' m xm np aG pos h1 h2 h3=>
  unfold gQ at h
  dsimp only at h
  split at h
  .
   rename_i d g1 e1
   cases h
   obtain⟨y,q1,q2⟩:=hC
   rw[h1]at q1
   cases q1
   obtain⟨jy,C',q3,q4⟩:=ct.md.cls x (aaP h1)
   have e:C'=C:=by
    have:=q3.symm.trans q2
    cases this
    rfl
   subst e
   exact FP ct.calm cx.ex q4 (ct.kU _ h2) q2 jy (cH (aV hS (X:=X.mj) ct hK h3 e1).lift dU (h3.star _)) (h3.star _)
  .
   cases h
 |_=>cases h
theorem lT(hS:jK P rn)(hX:nD P rn)(cx:Mq P k X c)(iQ:c.df=true)(hK:z.K=X.K)(hC:jv P X.mg ci C):∀{jk:List Stmt}{xs:List Sm}{g g':G},Om P c jk xs->eX rn z.bor k xs g=some (ci,g')->Ku X z jk g C g'
 |_,_,_,_,.nil,h=>by cases h
 |_,_,_,_,.grp h1 h2,h=>by
  unfold eX at h
  split at h
  .
   rename_i e1;cases h1 <;> cases e1
  .
   split at h
   .
    rename_i g1 e1;exact ((yx (X:=X.mj) hS cx.ct iQ hK h1 e1).lift).ra (lT hS hX cx iQ hK hC h2 h)
   .
    cases h
 |_,_,_,_,.cons h1 h2,h=>by
  unfold eX at h
  split at h
  .
   rename_i e1;cases h;exact KC (Cr hS hX cx iQ hK hC h1 e1)
  .
   split at h
   .
    rename_i g1 e1;exact KD (pW (X:=X.mj) hS cx.ct iQ hK h1 e1).lift (lT hS hX cx iQ hK hC h2 h)
   .
    cases h
end
theorem vW{P:Pg}{fns:List Fx}(hF:g5 P fns):∀n,jK P (run fns n)/\nD P (run fns n)
 | 0=>⟨⟨λ_ _ _ h=>(by cases h),λ_ _ _ h=>(by cases h),λ_ _ _ _ h=>(by cases h),λ_ _ _ _ h=>(by cases h)⟩,⟨λ_ _ _ _ h=>(by cases h),λ_ _ _ _ h=>(by cases h),λ_ _ _ _ _ h=>(by cases h)⟩⟩
 |n+1=>
  let ⟨a,b⟩:=vW hF n
  ⟨⟨λct hK hc h=>Hy a b hF ct hK hc h,λct hK hc h=>Hz a ct hK hc h,λct iQ hK hc h=>pX a ct iQ hK hc h,λct hK hl B h=>Hx a b hF ct hK hl B h⟩,
  ⟨λcx hK hC hc h=>HF a b hF cx hK hC hc h,λcx hK hC hc h=>Cq b cx hK hC hc h,λcx iQ hK hC hc h=>lT a b cx iQ hK hC hc h⟩⟩
theorem Mx{P:Pg}{fns:List Fx}(hF:g5 P fns)(n:Nat):jK P (run fns n):=(vW hF n).1
def bW(K:Frag)(mg:Str->Option Value)(fi:Fi):Prop:=
 ∃f fd,mg fi.name=some (.ref f)/\Jd K fi.name fi.qual fi.st f fd/\bV fi.N fi.ps (aD fi.st)/\(∀us:List Value,us.length=fi.ps.length->bindArgs fd ⟨us,[]⟩=pure (fi.ps.zip us))/\(fi.name==("__debug__" : Str))=false
noncomputable def Tq(K:Frag)(mg:Str->Option Value)(p:Str×D):Prop:=(p.1==("__debug__" : Str))=false/\∃v u,mg p.1=some u/\RelV v u/\∀M H,Rep K M H p.2 v
inductive All{α:Type}(p:α->Prop):List α->Prop
 |nil:All p []
 |cons {a:α}{l:List α}:p a->All p l->All p (a::l)
theorem All.mem{α:Type}{p:α->Prop}:∀{l:List α},All p l->∀a∈l,p a
 |_,.nil,_,h=>nomatch h
 |_,.cons h t,a,hm=>(aaj.mp hm).elim (λe=>e▸h) (All.mem t a)
structure Tr(P:Pg)(K:Frag)(mg:Str->Option Value):Prop where
 lam:P.lam=true->∀bB,PySem.W.codeIn K bB "_law_refusals_right" = true->GQ K mg bB
 gD:∀(i:Nat) (C:Addr),P.gD[i]?=some C->∃x,P.cls[i]?=some x/\mg x=some (.ref C)/\eL K C/\Dm K C
 kt:P.lam=true->(P.kt==("__debug__" : Str))=false/\∃D,mg P.kt=some (.ref D)/\eL K D/\∀C∈P.gD,qG K C D=true
 ups:∀(x:Str) (l:List (Addr×Bool)),(x,l)∈P.ups->(x==("__debug__" : Str))=false/\∃cv,((mg x=some cv/\∃D,cv=.ref D)\/(x∈P.bn/\x≠ "__name__" /\bootBuiltins x=some cv/\∃n,cv=.type n))/\PySem.W.kitOne K (.type "NoneType") cv=some false/\∀C b,l.lookup C=some b->PySem.W.kitOne K (.ref C) cv=some b
theorem XR{P:Pg}{K:Frag}{mg:Str->Option Value}(h1:All (bW K mg) P.fn)(h2:All (Tq K mg) P.ct)(h3:All (λx=>mg x=none) P.bn)(h4:All (λx=>(x==("__debug__" : Str))=false/\∃C,mg x=some (.ref C)/\eL K C) P.cls)(h5:Tr P K mg):tR P K mg:=
 ⟨λi fi e=>let ⟨f,fd,q1,q2,q3,q4,q5⟩:=h1.mem fi (aaP e);⟨f,fd,q1,q2,q3,.all q4,q5⟩,λx d h=>h2.mem (x,d) h,λx h=>h3.mem x h,λx h=>h4.mem x h,h5.lam,h5.gD,h5.kt,h5.ups⟩
def BdOk(fi:Fi):Prop:=∀(kV doc pm:Value) (an:Option Addr) (bB ct:Value) (us:List Value),us.length=fi.ps.length->bindArgs (PySem.W.fnOf fi.name fi.qual (iR fi.st) (cD fi.st) (aD fi.st) .none kV doc pm an bB ct) ⟨us,[]⟩=pure (fi.ps.zip us)
section
variable{K:Frag}{mg:Str->Option Value}{h:Heap}{f:Addr}
theorem XS{fi:Fi}{oc:Value}{od an:Option Addr}{osl:Array (Option Value)}{kV doc pm bB ct:Value}(X:K.In h)(G:h.Ns mainGlobals mg)(a:PySem.W.nsIn K mainGlobals fi.name=some (some (.ref f)))
  (l:K.lookup f=some ⟨oc,od,.func (PySem.W.fnOf fi.name fi.qual (iR fi.st) (cD fi.st) (aD fi.st) .none kV doc pm an bB ct),osl⟩) (c:PySem.W.codeIn K bB fi.qual=true) (k:PySem.W.keepIn K (.ref f)=true)
  (sc:bV fi.N fi.ps (aD fi.st)) (hb:BdOk fi)
  (hd:(fi.name==("__debug__" : Str))=false):bW K mg fi:=
 let F:=Qd (x:=fi.name) (qual:=fi.qual) (st:=fi.st) l c k
 ⟨f,_,acH X G a,F,sc,hb kV doc pm an bB ct,hd⟩
theorem Tt{x:Str}{i:Int}{t:Tok}(X:K.In h)(G:h.Ns mainGlobals mg)(a:PySem.W.nsIn K mainGlobals x=some (some (.int i t)))(hd:(x==("__debug__" : Str))=false):Tq K mg (x,.int i):=
 ⟨hd,.int i,.int i t,acH X G a,⟨t,rfl⟩,λ_ _=>.int i⟩
theorem HJ{x:Str}{C:Addr}(X:K.In h)(G:h.Ns mainGlobals mg)(a:PySem.W.nsIn K mainGlobals x=some (some (.ref C)))(q:eL K C)(hd:(x==("__debug__" : Str))=false):(x==("__debug__" : Str))=false/\∃C,mg x=some (.ref C)/\eL K C:=
 ⟨hd,C,acH X G a,q⟩
theorem Tv{P:Pg}{fns:List Fx}{prog:Program}{w:World}{base:Heap}(hF:g5 P fns)(md:tR P K mg){i:Nat}{fi:Fi}{fx:Fx}{x:Str}{fd:FuncData}{n k:Nat}(XQ:P.fn[i]?=some fi)(uA:fns[i]?=some fx)(hp:fi.ps=[x])(F:Jd K fi.name fi.qual fi.st f fd)(sc:bV fi.N fi.ps (aD fi.st)) :
  iW prog w K mg base uB (k+1) f fd [x] (Kc K fi.N 1 λbor g r g'=>(run fns n).b bor k fx.body g=some (.rt r,g')):=by
 have:=zp (P:=prog) (w:=w) (mg:=mg) (base:=base) (k:=k) (N:=fi.N) (ps:=fi.ps) (run:=λbor g r g'=>(run fns n).b bor k fx.body g=some (.rt r,g')) F sc λbB A outer s H E bD hr z g r g' hK hrun=>
  ⟨_,(Mx hF n).b (pS sc md bD hr) rfl hK (hF i fi fx XQ uA).body hrun,.inl rfl⟩
 rw[hp]at this
 exact this
theorem HN{P:Pg}{fns:List Fx}{prog:Program}{w:World}(hF:g5 P fns)(md:tR P K mg){i:Nat}{fi:Fi}{fx:Fx}{x:Str}{n k:Nat}(XQ:P.fn[i]?=some fi)(uA:fns[i]?=some fx)(hp:fi.ps=[x])(h:bW K mg fi)(hm:mg fi.name=some (.ref f)) :
  ∃fd:FuncData,(∀(s:Shared) (u:Value),BindsTo s fd ⟨[u],[]⟩ [(x,u)])/\∀base:Heap,K.In base->base.Ns mainGlobals mg->iW prog w K mg base uB (k+1) f fd [x] (Kc K fi.N 1 λbor g r g'=>(run fns n).b bor k fx.body g=some (.rt r,g')):=by
 obtain⟨f',fd,q1,q2,q3,q4,q5⟩:=h
 rw[hm]at q1
 cases q1
 refine⟨fd,λs u=>.of_eq ?_,λbase _ _=>Tv hF md XQ uA hp q2 q3⟩
 have:=q4 [u] (by rw[hp];rfl)
 rw[hp]at this
 exact this
theorem Tw{N:List Str}{run:List Nat->G->R->G->Prop}(hev:∀ns:List Int,ns.length<=63->∃g',run [] (cT N.length [.dat (.fix (ns.map .int))]) (.dat (.bl true)) g')(K:Frag)(H:Hp)(a:Addr)(ns:List Int)(hl:ns.length<=63)(hO:zF ((cF K).map (·.1)) H)(hS:cK K H a (ns.map V.int)) :
  Kc K N 1 run [.ref a] H (λv _=>v=.bl true) λ_ _ _=>False:=by
 obtain⟨g',hg⟩:=hev ns hl
 have fx:oH K ((cF K).map (·.1)) H a (ns.map V.int):=by
  rcases hS with h |h
  .
   rcases hO a with ⟨_,z⟩ |⟨na,z⟩
   .
    rcases h with h |⟨o,h⟩ <;> (rw[z]at h;cases h)
   .
    refine .inl ⟨na,?_⟩
    rcases h with h |h
    .
     rcases z with z |⟨o,xs,z⟩
     .
      rw[z]at h;cases h
     .
      rw[z]at h;cases h
    .
     exact h
  .
   exact .inr (.inr h)
 have rr:∀ns:List Int,aI K ((cF K).map (·.1)) H (ns.map D.int) (ns.map V.int):=λns=>by
  induction ns with
  |nil=>exact .nil
  |cons n ns ih=>exact .cons (.int n) ih
 have tb:∀p∈cF K,H p.1=some (.kW #[]):=λp hp=>by
  rcases hO p.1 with ⟨_,z⟩ |⟨z,_⟩
  .
   exact z
  .
   exact absurd (aaD.mpr ⟨p,hp,rfl⟩) z
 refine⟨rfl,⟨K,H,(cF K).map (·.1),[],cF K⟩,cT N.length [.dat (.fix (ns.map .int))],g',[],(cF K).map (·.1),.dat (.bl true),rfl,?_,hg,λv σ' aB M' H' s' st R=>fG R⟩
 refine⟨?_,abg,(λa ha=>nomatch ha),λi b l e1 e2=>?_,(λm hm=>.inr hm),(λb o e _ _=>e),(λm hm=>hm),(λm hm=>?_),(λb hb=>nomatch hb),(λp hp=>nomatch hp),(λp hp=>⟨#[],tb p hp,trivial,λpos cv e=>nomatch e⟩),(λp hp=>aaD.mpr ⟨p,hp,rfl⟩),rfl⟩
 .
  exact Slots.append (A1:=[]) (.dat (.fix fx (rr ns)) .nil) (Slots.YD _)
 .
  exfalso
  unfold cT at e1
  cases i with
  |zero=>simp at e1
  |succ i=>
   rw[aam (by simp)]at e1
   have:=aaP e1
   rw[abB]at this
   exact absurd this.2 (by simp)
 .
  obtain⟨p,hp,rfl⟩:=aaD.mp hm
  intro z
  have z:H p.1=none:=z
  rw[tb p hp]at z;cases z
end
noncomputable def fxB(P:Pg)(fi:Fi)(fx:Fx):Bool:=decide (fx.np=fi.ps.length)&&(decide (fx.n=fi.N.length)&&sB (gB P (Ve P 100 ⟨fi.N,aD fi.st,true,fi.qual⟩) (XJ P 20 ⟨fi.N,aD fi.st,true,fi.qual⟩) ⟨fi.N,aD fi.st,true,fi.qual⟩) (XJ P 20 ⟨fi.N,aD fi.st,true,fi.qual⟩) (cD fi.st) fx.body)
theorem Tz{P:Pg}{fi:Fi}{fx:Fx}(h:fxB P fi fx=true):Mr P fi fx:=⟨dec (aj h).1,dec (aj (aj h).2).1,vN (λ_ _ h=>vP (λ_ _ h=>⟨100,h⟩) (λ_ _ h=>⟨20,h⟩) h) (λ_ _ h=>⟨20,h⟩) (aj (aj h).2).2⟩
noncomputable def HQ(P:Pg):List Fi->List Fx->Bool
 |fi::l,fx::r=>fxB P fi fx&&HQ P l r
 |_,_=>true
theorem My{P:Pg}{l:List Fi}{r:List Fx}(h:HQ P l r=true)(f:Nat)(fi:Fi)(fx:Fx)(h1:l[f]?=some fi)(h2:r[f]?=some fx):Mr P fi fx:=by
 induction l generalizing r f with
 |nil=>cases h1
 |cons a l ih=>cases r with
  |nil=>cases h2
  |cons b r=>
   have h:(fxB P a b&&HQ P l r)=true:=h
   cases f with
   |zero=>cases h1;cases h2;exact Tz (aj h).1
   |succ f=>exact ih (aj h).2 f h1 h2
theorem TF{P:Pg}{fns:List Fx}(h:HQ P P.fn fns=true):g5 P fns:=λf fi fx h1 h2=>My h f fi fx h1 h2
theorem XT{us:List Value}(h:us.length=1):∃a,us=[a]:=by
 cases us with
 |nil=>cases h
 |cons a us=>cases us with
  |nil=>exact⟨a,rfl⟩
  |cons _ _=>cases h
theorem XX{us:List Value}(h:us.length=2):∃a b,us=[a,b]:=by
 cases us with
 |nil=>cases h
 |cons a us=>obtain⟨b,rfl⟩:=XT (acs h);exact⟨a,b,rfl⟩
theorem len3{us:List Value}(h:us.length=3):∃a b c,us=[a,b,c]:=by
 cases us with
 |nil=>cases h
 |cons a us=>obtain⟨b,c,rfl⟩:=XX (acs h);exact⟨a,b,c,rfl⟩
def cI(st:Stmt):Fi:=match st with
 |.FunctionDef name args _ _ _ _ scope _ _ _=>⟨name,name,st,(args.args.map (·.arg))++scope.names.filterMap (λy=>if (y.2==.local||y.2==.cell)&&!(args.args.map (·.arg)).contains y.1 then some y.1 else none),args.args.map (·.arg)⟩
 |st=>⟨"", "",st,[],[]⟩
section
variable{fns:List Fx}{bor:List Nat}{k n:Nat}{g g1:G}{rn:Rn}
theorem vX(ds:List D):∀i,vars i (ds.map R.dat)=[]:=by
 induction ds with
 |nil=>intro i;rfl
 |cons d ds ih=>intro i;exact ih (i+1)
theorem vY(ds:List D):bQ (ds.map R.dat) g1=some (ds.map .dat):=by
 induction ds with
 |nil=>rfl
 |cons d ds ih=>
  show (match bQ (ds.map R.dat) g1 with |some gs=>some (Slot.dat d::gs) |none=>none)=_
  rw[ih]
  rfl
noncomputable def Vh:List D->G
 | []=>[]
 |d::l=>.dat d::Vh l
theorem zX(ds:List D):Vh ds=ds.map .dat:=by
 induction ds with
 |nil=>rfl
 |cons d ds ih=>rw[Vh,ih];rfl
noncomputable def cN(rn:Rn)(k:Nat)(fx:Fx)(ds:List D):Option R:=match rn.b [] k fx.body (cT fx.n (Vh ds))with
 |some (.rt r,gc)=>dz [] gc r
 |some (.nx,_)=>some (.dat .non)
 |_=>none
theorem lU{fx:Fx}{ds:List D}(hl:ds.length=fx.np):aK rn fx k (ds.map .dat) g1=(cN rn k fx ds).map λr=>(r,g1):=by
 unfold aK cN
 rw[vX,vY,zX]
 simp only[aaA,hl,List.map_nil,abg,and_self,abM]
 cases rn.b [] k fx.body (cT fx.n (ds.map .dat))with
 |none=>rfl
 |some p=>
  obtain⟨f,gc⟩:=p
  cases f with
  |nx=>rfl
  |rt r=>
   simp only[back]
   cases dz [] gc r <;> rfl
  |bk=>rfl
  |ct=>rfl
noncomputable def gM(g m:G)(acc:List D):G:=g++(m++[.own acc])
theorem iU{g m:G}{acc:List D}{i:Nat}(h:i<g.length):(gM g m acc)[i]?=g[i]?:=by unfold gM;rw[aat h]
theorem gS{g m:G}{acc:List D}{i:Nat}(h:i<m.length):(gM g m acc)[g.length+i]?=m[i]?:=by
 unfold gM
 rw[aam (by lia),aaL,aat h]
theorem iV{g m:G}{acc:List D}:(gM g m acc)[g.length+m.length]?=some (.own acc):=by
 unfold gM
 rw[aam (by lia),aaL,aam (aal _),acv]
 rfl
theorem gU{g m:G}{acc:List D}{i:Nat}{s:Slot}(h:i<m.length):(gM g m acc).set (g.length+i) s=gM g (m.set i s) acc:=by
 unfold gM
 rw[abk _ _ (by lia),aaL,List.set_append_left _ _ h]
theorem iM{g m:G}{acc acc':List D}:(gM g m acc).set (g.length+m.length) (.own acc')=gM g m acc':=by
 unfold gM
 rw[abk _ _ (by lia),aaL,abk _ _ (aal _),acv]
 rfl
theorem tZ{g m:G}{acc:List D}:(gM g m acc).take g.length=g:=by unfold gM;simp
theorem HR{kk:Nat}:gC kk g=gM g (List.replicate kk .no) []:=rfl
theorem uc{α:Type}{T:Tg}{last kk:Nat}{c:Option Ex}{e:Ex}(cY:α->D)(f:α->D)(p:α->Bool)(st:α->G->G)(iF:last=g.length+kk)(d9:∀d m,m.length=kk->(st d m).length=kk) :
  ∀(items:List α) (m:G) (acc:List D),m.length=kk->acc.length+items.length<=lim->
  (∀d∈items,∀m acc,m.length=kk->T.set (cY d) (gM g m acc)=some (gM g (st d m) acc))->
  (∀d∈items,∀m acc,m.length=kk->BZ rn bor k c (gM g (st d m) acc)=some (p d,gM g (st d m) acc))->
  (∀d∈items,p d=true->∀m acc,m.length=kk->dY rn bor k e (gM g (st d m) acc)=some (f d,gM g (st d m) acc))->
  ∃m',m'.length=kk/\Ca rn bor k T last c e (items.map cY) (gM g m acc)=some (gM g m' (acc++(items.filter p).map f))
 | [],m,acc,hm,_,_,_,_=>⟨m,hm,by simp[Ca]⟩
 |d::items,m,acc,hm,hl,hT,hi,he=>by
  rw[aaQ]at hl
  have q1:=hT d aah m acc hm
  have q2:=hi d aah m acc hm
  have hm':=d9 d m hm
  rw[List.map_cons]
  unfold Ca
  rw[q1]
  dsimp only
  rw[q2]
  cases hp:p d with
  |false=>
   dsimp only
   obtain⟨m',w1,w2⟩:=uc cY f p st iF d9 items (st d m) acc hm' (by lia) (λx hx=>hT x (aaf _ hx)) (λx hx=>hi x (aaf _ hx)) (λx hx=>he x (aaf _ hx))
   exact⟨m',w1,by rw[w2,List.filter_cons,hp];rfl⟩
  |true=>
   have q3:=he d aah hp m acc hm
   dsimp only
   rw[q3]
   dsimp only
   have q4:(gM g (st d m) acc)[last]?=some (.own acc):=by rw[iF,<- hm'];exact iV
   rw[q4]
   dsimp only
   rw[aav (by lia)]
   have q5:(gM g (st d m) acc).set last (.own (acc++[f d]))=gM g (st d m) (acc++[f d]):=by rw[iF,<- hm'];exact iM
   rw[q5]
   obtain⟨m',w1,w2⟩:=uc cY f p st iF d9 items (st d m) (acc++[f d]) hm' (by rw[aaw,abz];lia) (λx hx=>hT x (aaf _ hx)) (λx hx=>hi x (aaf _ hx)) (λx hx=>he x (aaf _ hx))
   refine⟨m',w1,?_⟩
   rw[w2,List.filter_cons,hp]
   simp
theorem rR{α:Type}{kk nn:Nat}{T:Tg}{it:Ex}{c:Option Ex}{e:Ex}(items:List α)(cY:α->D)(f:α->D)(p:α->Bool)(st:α->G->G)(hw:gA rn bor k T.pI it g=some (items.map cY,g1))(hn:nn=g1.length)(hb:(T.ix.any λi=>decide (i∈bor))=false)(hl:items.length<=lim)(d9:∀d m,m.length=kk->(st d m).length=kk)
  (hT:∀d∈items,∀m acc,m.length=kk->T.set (cY d) (gM g1 m acc)=some (gM g1 (st d m) acc))
  (hi:∀d∈items,∀m acc,m.length=kk->BZ rn bor k c (gM g1 (st d m) acc)=some (p d,gM g1 (st d m) acc))
  (he:∀d∈items,p d=true->∀m acc,m.length=kk->dY rn bor k e (gM g1 (st d m) acc)=some (f d,gM g1 (st d m) acc)) :
  dh rn bor k nn kk T it c e g=some ((items.filter p).map f,g1):=by
 subst hn
 obtain⟨m',w1,w2⟩:=uc (rn:=rn) (bor:=bor) (k:=k) (g:=g1) (last:=g1.length+kk) cY f p st rfl d9 items (List.replicate kk .no) [] (by simp) (by simpa using hl) hT hi he
 unfold dh
 rw[hw]
 dsimp only
 rw[aav ⟨rfl,hb⟩,HR,w2]
 dsimp only
 have:(gM g1 m' ([]++(items.filter p).map f))[g1.length+kk]?=some (.own ([]++(items.filter p).map f)):=by rw[<- w1];exact iV
 rw[this]
 dsimp only
 rw[tZ,abT]
theorem HS{j kk:Nat}{d:D}{m:G}{acc:List D}(hj:g.length<=j)(hk:j - g.length<m.length):(Tg.nm j).set d (gM g m acc)=some (gM g (m.set (j - g.length) (.dat d)) acc):=by
 show some ((gM g m acc).set j (.dat d))=_
 have:=gU (g:=g) (acc:=acc) (s:=.dat d) hk
 rw[show g.length+(j - g.length)=j by lia]at this
 rw[this]
def Mz(g:G)(j:Nat)(d:D)(G':G):Prop:=(∀i,i<g.length->G'[i]?=g[i]?)/\G'[j]?=some (.dat d)
theorem HW{α:Type}{kk nn j:Nat}{it:Ex}{c:Option Ex}{e:Ex}(items:List α)(cY:α->D)(p:α->Bool)(f:α->D)(hw:gA rn bor k false it g=some (items.map cY,g1))(hn:nn=g1.length)(hj1:g1.length<=j)(hj2:j<g1.length+kk)(hb:j∉bor)(hl:items.length<=lim)
  (hi:∀a∈items,∀G',Mz g1 j (cY a) G'->BZ rn bor k c G'=some (p a,G')) (he:∀a∈items,p a=true->∀G',Mz g1 j (cY a) G'->dY rn bor k e G'=some (f a,G')) :
  dh rn bor k nn kk (.nm j) it c e g=some ((items.filter p).map f,g1):=by
 have sees:∀(a:α) (m:G) (acc:List D),m.length=kk->Mz g1 j (cY a) (gM g1 (m.set (j - g1.length) (.dat (cY a))) acc):=λa m acc hm=>by
  refine⟨λi hi=>iU hi,?_⟩
  have:=gS (g:=g1) (m:=m.set (j - g1.length) (.dat (cY a))) (acc:=acc) (i:=j - g1.length) (by simp;lia)
  rw[show g1.length+(j - g1.length)=j by lia]at this
  rw[this,aax (by lia)]
 refine rR (T:=.nm j) items cY f p (λa m=>m.set (j - g1.length) (.dat (cY a))) hw hn (by simp[Tg.ix,hb]) hl (λd m hm=>by simpa using hm) (λa _ m acc hm=>HS (kk:=kk) hj1 (by lia)) (λa ha m acc hm=>hi a ha _ (sees a m acc hm)) λa ha hp m acc hm=>he a ha hp _ (sees a m acc hm)
theorem filter_all{α:Type}(l:List α):l.filter (λ_=>true)=l:=List.filter_eq_self.mpr λ_ _=>rfl
theorem kG{α:Type}{kk nn j:Nat}{it:Ex}{e:Ex}(items:List α)(cY:α->D)(f:α->D)(hw:gA rn bor k false it g=some (items.map cY,g1))(hn:nn=g1.length)(hj1:g1.length<=j)(hj2:j<g1.length+kk)(hb:j∉bor)(hl:items.length<=lim)
  (he:∀a∈items,∀G',Mz g1 j (cY a) G'->dY rn bor k e G'=some (f a,G')):dh rn bor k nn kk (.nm j) it none e g=some (items.map f,g1):=by
 have:=HW (c:=none) items cY (λ_=>true) f hw hn hj1 hj2 hb hl (λ_ _ _ _=>rfl) λa ha _ G' hG=>he a ha G' hG
 rw[filter_all]at this
 exact this
def zY(g:G)(j1 j2:Nat)(d1 d2:D)(G':G):Prop:=(∀i,i<g.length->G'[i]?=g[i]?)/\G'[j1]?=some (.dat d1)/\G'[j2]?=some (.dat d2)
theorem XZ{α:Type}{kk nn j1 j2:Nat}{it:Ex}{c:Option Ex}{e:Ex}(items:List α)(jh jM:α->D)(p:α->Bool)(f:α->D)(hw:gA rn bor k true it g=some (items.map λa=>.tup [jh a,jM a],g1))(hn:nn=g1.length)(hj1:g1.length<=j1)(X3:j1<g1.length+kk)(hj2:g1.length<=j2)(X4:j2<g1.length+kk)(ji:j1≠j2)(hb1:j1∉bor)(hb2:j2∉bor)(hl:items.length<=lim)
  (hi:∀a∈items,∀G',zY g1 j1 j2 (jh a) (jM a) G'->BZ rn bor k c G'=some (p a,G')) (he:∀a∈items,p a=true->∀G',zY g1 j1 j2 (jh a) (jM a) G'->dY rn bor k e G'=some (f a,G')) :
  dh rn bor k nn kk (.tp [j1,j2]) it c e g=some ((items.filter p).map f,g1):=by
 have sees:∀(a:α) (m:G) (acc:List D),m.length=kk->zY g1 j1 j2 (jh a) (jM a) (gM g1 ((m.set (j1 - g1.length) (.dat (jh a))).set (j2 - g1.length) (.dat (jM a))) acc):=λa m acc hm=>by
  refine⟨λi hi=>iU hi,?_,?_⟩
  .
   have:=gS (g:=g1) (m:=(m.set (j1 - g1.length) (.dat (jh a))).set (j2 - g1.length) (.dat (jM a))) (acc:=acc) (i:=j1 - g1.length) (by simp;lia)
   rw[show g1.length+(j1 - g1.length)=j1 by lia]at this
   rw[this,aar (by lia),aax (by lia)]
  .
   have:=gS (g:=g1) (m:=(m.set (j1 - g1.length) (.dat (jh a))).set (j2 - g1.length) (.dat (jM a))) (acc:=acc) (i:=j2 - g1.length) (by simp;lia)
   rw[show g1.length+(j2 - g1.length)=j2 by lia]at this
   rw[this,aax (by simp;lia)]
 refine rR (T:=.tp [j1,j2]) items (λa=>.tup [jh a,jM a]) f p (λa m=>(m.set (j1 - g1.length) (.dat (jh a))).set (j2 - g1.length) (.dat (jM a))) hw hn (by simp[Tg.ix,hb1,hb2]) hl (λd m hm=>by simpa using hm) (λa _ m acc hm=>?_) (λa ha m acc hm=>hi a ha _ (sees a m acc hm)) λa ha hp m acc hm=>he a ha hp _ (sees a m acc hm)
 have q1:=gU (g:=g1) (m:=m) (acc:=acc) (i:=j1 - g1.length) (s:=.dat (jh a)) (by lia)
 have q2:=gU (g:=g1) (m:=m.set (j1 - g1.length) (.dat (jh a))) (acc:=acc) (i:=j2 - g1.length) (s:=.dat (jM a)) (by simp;lia)
 rw[show g1.length+(j1 - g1.length)=j1 by lia]at q1
 rw[show g1.length+(j2 - g1.length)=j2 by lia]at q2
 show some (((gM g1 m acc).set j1 (.dat (jh a))).set j2 (.dat (jM a)))=_
 rw[q1,q2]
theorem yy{α:Type}{kk nn j1 j2:Nat}{it:Ex}{e:Ex}(items:List α)(jh jM:α->D)(f:α->D)(hw:gA rn bor k true it g=some (items.map λa=>.tup [jh a,jM a],g1))(hn:nn=g1.length)(hj1:g1.length<=j1)(X3:j1<g1.length+kk)(hj2:g1.length<=j2)(X4:j2<g1.length+kk)(ji:j1≠j2)(hb1:j1∉bor)(hb2:j2∉bor)(hl:items.length<=lim)
  (he:∀a∈items,∀G',zY g1 j1 j2 (jh a) (jM a) G'->dY rn bor k e G'=some (f a,G')):dh rn bor k nn kk (.tp [j1,j2]) it none e g=some (items.map f,g1):=by
 have:=XZ (c:=none) items jh jM (λ_=>true) f hw hn hj1 X3 hj2 X4 ji hb1 hb2 hl (λ_ _ _ _=>rfl) λa ha _ G' hG=>he a ha G' hG
 rw[filter_all]at this
 exact this
theorem zZ{c:G->Option (Bool×G)}{b:G->Option (Fl×G)}(I:Nat->G->Prop)(step:∀m g,I (m+1) g->∃g1 g2,c g=some (true,g1)/\b g1=some (.nx,g2)/\I m g2)(fin:∀g,I 0 g->c g=some (false,g)) :
  ∀m N g,m<N->I m g->∃g',I 0 g'/\Oc c b N g=some (.nx,g')
 | 0,N+1,g,_,h=>⟨g,h,by unfold Oc;rw[fin g h]⟩
 |m+1,N+1,g,hN,h=>by
  obtain⟨g1,g2,q1,q2,q3⟩:=step m g h
  obtain⟨g',w1,w2⟩:=zZ I step fin m N g2 (by lia) q3
  exact⟨g',w1,by unfold Oc;rw[q1];dsimp only;rw[q2];exact w2⟩
theorem eF{α:Type}{T:Tg}{b:G->Option (Fl×G)}(cY:α->D)(I:List α->G->Prop)(step:∀a l g,I (a::l) g->∃g1 g2,T.set (cY a) g=some g1/\b g1=some (.nx,g2)/\I l g2):∀l g,I l g->∃g',I [] g'/\mR T b (l.map cY) g=some (.nx,g')
 | [],g,h=>⟨g,h,rfl⟩
 |a::l,g,h=>by
  obtain⟨g1,g2,q1,q2,q3⟩:=step a l g h
  obtain⟨g',w1,w2⟩:=eF cY I step l g2 q3
  exact⟨g',w1,by rw[List.map_cons];unfold mR;rw[q1];dsimp only;rw[q2];exact w2⟩
end
theorem ints_map(l:List Int):bZ (l.map .int)=some l:=by
 induction l with
 |nil=>rfl
 |cons a l ih=>simp[bZ,ih]
theorem MF(l:List Bool):uR (l.map .bl)=some l:=by
 induction l with
 |nil=>rfl
 |cons a l ih=>simp[uR,ih]
theorem HX(l:List (List Int))(h:∀x∈l,x≠[]):pD (l.map λx=>.tup (x.map .int))=some l:=by
 induction l with
 |nil=>rfl
 |cons a l ih=>
  have ha:=h a aah
  cases a with
  |nil=>exact absurd rfl ha
  |cons x a=>
   have:=ints_map (x::a)
   simp only[List.map_cons]at this ⊢
   simp only[pD,this,ih λy hy=>h y (aaf _ hy)]
theorem Cu(a:List Int)(l:List (List Int)):bZ ((a::l).map λ(x:List Int)=>.tup (x.map .int))=none:=rfl
theorem HY(l:List D):pJ .len [.tup l]=some (.dat (.int l.length)):=rfl
theorem Ia(l:List D):pJ .len [.lst l]=some (.dat (.int l.length)):=rfl
theorem pZ(l:List D):pJ .len [.fix l]=some (.dat (.int l.length)):=rfl
theorem Cv(l:List D):pJ .list [.tup l]=some (.new l):=rfl
theorem Cw(l:List D):pJ .list [.lst l]=some (.new l):=rfl
theorem yz(l:List D):pJ .tuple [.lst l]=some (.dat (.tup l)):=rfl
theorem yC(l:List D):pJ .tuple [.tup l]=some (.dat (.tup l)):=rfl
theorem MJ(i j:Int):pJ .max [.int i,.int j]=some (.dat (.int (if j > i then j else i))):=rfl
theorem MK(i j:Int):pJ .min [.int i,.int j]=some (.dat (.int (if j<i then j else i))):=rfl
theorem p7(l:List Bool):pJ .all [.lst (l.map .bl)]=some (.dat (.bl (l.all id))):=by simp only[pJ,RQ,MF]
theorem mU(l:List Int)(h:l.length<64):pJ .sorted [.lst (l.map .int)]=some (.new ((cA l).map .int)):=by simp only[pJ,RQ,cR,ints_map,h,abM]
theorem iN(l:List Int)(h:l.length<64):pJ .sorted [.tup (l.map .int)]=some (.new ((cA l).map .int)):=by simp only[pJ,RQ,cR,ints_map,h,abM]
theorem fc(l:List (List Int))(hn:∀x∈l,x≠[])(h:l.length<64):pJ .sorted [.lst (l.map λx=>.tup (x.map .int))]=some (.new ((dg iI l).map λx=>.tup (x.map .int))):=by
 cases l with
 |nil=>rfl
 |cons a l=>
  have e:=HX (a::l) hn
  simp only[pJ,RQ,cR,Cu,e,h,abM]
theorem fZ:∀a b:List Int,dw (a.map .int) (b.map .int)=decide (a=b)
 | [],[]=>rfl
 | [],_::_=>rfl
 |_::_,[]=>rfl
 |x::a,y::b=>by
  simp only[List.map_cons,dw,bL,fZ a b,List.cons.injEq,Bool.decide_and]
  rfl
theorem eG(a:List Int):fD (a.map .int)=true:=by
 induction a with
 |nil=>rfl
 |cons x a ih=>simp[fD,fO,ih]
theorem gi(a:List Int):deps (a.map .int)=0:=by
 induction a with
 |nil=>rfl
 |cons x a ih=>simp[deps,dep,ih]
theorem rS(a b:List Int):eV (.tup (a.map .int)) (.tup (b.map .int))=true:=by simp[eV,fO,eG,dep,gi]
theorem p8(a b:List Int):eV (.lst (a.map .int)) (.lst (b.map .int))=true:=by simp[eV,fO,eG,dep,gi]
theorem TJ(a b:List Int):d8 .Eq (.tup (a.map .int)) (.tup (b.map .int))=some (decide (a=b)):=by simp only[d8,rS,abM,bL,fZ]
theorem TL(a b:List Int):d8 .NotEq (.tup (a.map .int)) (.tup (b.map .int))=some (!decide (a=b)):=by simp only[d8,rS,abM,bL,fZ]
theorem TQ(a b:List Int):d8 .Eq (.lst (a.map .int)) (.lst (b.map .int))=some (decide (a=b)):=by simp only[d8,p8,abM,bL,fZ]
theorem Ib(a b:List Int):d8 .NotEq (.lst (a.map .int)) (.lst (b.map .int))=some (!decide (a=b)):=by simp only[d8,p8,abM,bL,fZ]
theorem TV(a b:Int):d8 .Eq (.int a) (.int b)=some (decide (a=b)):=rfl
theorem TX(a b:Int):d8 .NotEq (.int a) (.int b)=some (!decide (a=b)):=rfl
theorem TY(a b:Int):d8 .Lt (.int a) (.int b)=some (decide (a<b)):=rfl
theorem T3(a b:Int):d8 .LtE (.int a) (.int b)=some (decide (a<=b)):=rfl
theorem T4(a b:Int):d8 .Gt (.int a) (.int b)=some (decide (a > b)):=rfl
theorem T5(a b:Int):d8 .GtE (.int a) (.int b)=some (decide (a ≥ b)):=rfl
theorem MN(a b:Int):vt .Add (.int a) (.int b)=some (.dat (.int (a+b))):=rfl
theorem MP(a b:Int):vt .Sub (.int a) (.int b)=some (.dat (.int (a - b))):=rfl
theorem ix_t(l:List D)(i:Int):Du (.tup l) (.int i)=L2.g7 l i:=rfl
theorem ix_l(l:List D)(i:Int):Du (.lst l) (.int i)=L2.g7 l i:=rfl
theorem ix_f(l:List D)(i:Int):Du (.fix l) (.int i)=L2.g7 l i:=rfl
theorem nW{α:Type}(l:List α)(i:Nat)(h:i<l.length):L2.g7 l (i:Int)=some l[i]:=by
 unfold L2.g7 L2.qo
 rw[aav (by lia),aav (by lia)]
 simp[h]
theorem vZ(l:List Int)(i:Nat)(h:i<l.length):L2.g7 (l.map D.int) (i:Int)=some (.int l[i]):=by
 rw[nW _ _ (by simpa using h)]
 simp
theorem is_tup(l:List D):eW (j8 (.tup l)) "tuple" = true:=rfl
theorem T6(i:Int):eW (j8 (.int i)) "int" = true:=rfl
theorem Ic(i:Int):eW (j8 (.int i)) "bool" = false:=rfl
theorem gj(m:Nat):cS 0 m=((List.range m).map λ(k:Nat)=>(k:Int)).map .int:=by simp[cS]
theorem ak(m:Nat)(h:m<=1000):m<=lim:=aaI h (by decide)
theorem aP(i:Int)(h:0<=i/\i<=1000):Lk i=true:=by
 unfold Lk
 simp only[aao,aaz]
 lia
section
variable{rn:Rn}{bor:List Nat}{k:Nat}{g1:G}
theorem bI{fx:Fx}{d:D}(h:fx.np=1):aK rn fx k [.dat d] g1=(cN rn k fx [d]).map λr=>(r,g1):=lU (ds:=[d]) h.symm
theorem aR{fx:Fx}{d e:D}(h:fx.np=2):aK rn fx k [.dat d,.dat e] g1=(cN rn k fx [d,e]).map λr=>(r,g1):=lU (ds:=[d,e]) h.symm
theorem cE{fx:Fx}{d e f:D}(h:fx.np=3):aK rn fx k [.dat d,.dat e,.dat f] g1=(cN rn k fx [d,e,f]).map λr=>(r,g1):=lU (ds:=[d,e,f]) h.symm
end
structure ud(fns:List Fx)(rn:Nat->Rn):Prop where
 e:∀(n:Nat) (bor:List Nat) (k:Nat) (x:Ex) (g:G),(rn (n+1)).e bor k x g=aN (rn n) bor k fns x g
 t:∀(n:Nat) (bor:List Nat) (k:Nat) (x:Ex) (g:G),(rn (n+1)).t bor k x g=stepT (rn n) bor k x g
 b:∀(n:Nat) (bor:List Nat) (k:Nat) (x:List Sm) (g:G),(rn (n+1)).b bor k x g=fH (rn n) bor k x g
 x:∀(n:Nat) (bor:List Nat) (k:Nat) (x:Ex) (g:G),(rn (n+1)).x bor k x g=vE (rn n) bor k fns x g
 xt:∀(n:Nat) (bor:List Nat) (k:Nat) (x:Ex) (g:G),(rn (n+1)).xt bor k x g=lK (rn n) bor k x g
 xb:∀(n:Nat) (bor:List Nat) (k:Nat) (x:List Sm) (g:G),(rn (n+1)).xb bor k x g=eX (rn n) bor k x g
theorem MT(fns:List Fx):ud fns (run fns):=⟨λ_ _ _ _ _=>rfl,λ_ _ _ _ _=>rfl,λ_ _ _ _ _=>rfl,λ_ _ _ _ _=>rfl,λ_ _ _ _ _=>rfl,λ_ _ _ _ _=>rfl⟩
noncomputable def fM(rn:Rn)(k:Nat)(fx:Fx)(ds:List D):Option Nat:=match rn.xb [] k fx.body (cT fx.n (Vh ds))with
 |some (ci,_)=>some ci
 |none=>none
theorem lV{rn:Rn}{k:Nat}{g1:G}{fx:Fx}{ds:List D}(hl:ds.length=fx.np):pK rn fx k (ds.map .dat) g1=(fM rn k fx ds).map λr=>(r,g1):=by
 unfold pK fM
 rw[vX,vY,zX]
 simp only[aaA,hl,List.map_nil,abg,and_self,abM]
 cases rn.xb [] k fx.body (cT fx.n (ds.map .dat))with
 |none=>rfl
 |some p=>rfl
section
variable{rn:Rn}{bor:List Nat}{k:Nat}{g1:G}
theorem uf{fx:Fx}{d:D}(h:fx.np=1):pK rn fx k [.dat d] g1=(fM rn k fx [d]).map λr=>(r,g1):=lV (ds:=[d]) h.symm
theorem bJ{fx:Fx}{d e:D}(h:fx.np=2):pK rn fx k [.dat d,.dat e] g1=(fM rn k fx [d,e]).map λr=>(r,g1):=lV (ds:=[d,e]) h.symm
theorem eu{fx:Fx}{d e f:D}(h:fx.np=3):pK rn fx k [.dat d,.dat e,.dat f] g1=(fM rn k fx [d,e,f]).map λr=>(r,g1):=lV (ds:=[d,e,f]) h.symm
end
abbrev evZ:=And.intro @is_tup (And.intro @T6 (And.intro @Ic (And.intro @HY (And.intro @Ia (And.intro @Cv (And.intro @Cw (And.intro @yz (And.intro @yC (And.intro @MJ (And.intro @MK (And.intro @p7 (And.intro @TJ (And.intro @TL (And.intro @TQ (And.intro @Ib (And.intro @TV (And.intro @TX (And.intro @TY (And.intro @T3 (And.intro @T4 (And.intro @T5 (And.intro @MN (And.intro @MP (And.intro @ix_t (And.intro @ix_l @ix_f)))))))))))))))))))))))))
abbrev unfZ{fns rn}(U:ud fns rn):=And.intro U.e (And.intro U.t (And.intro U.b (And.intro U.x (And.intro U.xt U.xb))))
end Ev
local macro_rules | `(tactic|simp! [$u:term,$ls,*])=>`(tactic|simp[-List.map_map,-List.map_cons,-List.map_nil,Ev.unfZ $u,Ev.evZ,Ev.vE,Ev.lK,Ev.gQ,Ev.eX,Ev.xArgs,Ev.fH,Ev.aF,Ev.aN,Ev.stepT,Ev.argsR,Ev.mQ,Ev.dY,Ev.toD,Ev.norm,Ev.pk,Ev.uO,Ev.cT,Ev.dz,Ev.Vh,Ev.GK,Ev.Xk,Ev.vB,Ev.GL,Ev.Dw,Ev.Kp,$ls,*])
local macro_rules | `(~~~$x)=>`(Ev.D.tup (List.map Ev.D.int $x))
namespace Ev
noncomputable def bC:Fx:=⟨2,4,[(.ite (.ix (.slot 0) (.val (.int 1))) [(.set 2 (.bin .Mod (.ix (.slot 0) (.val (.int 0))) (.slot 1))),(.item 0 (.val (.int 0)) (.bin .FloorDiv (.ix (.slot 0) (.val (.int 0))) (.slot 1))),(.ret (.slot 2))] []),(.item 0 (.val (.int 0)) (.bin .Mod (.bin .Add (.bin .Mult (.ix (.slot 0) (.val (.int 0))) (.val (.int 48271))) (.val (.int 29))) (.val (.int 2147483647)))),(.set 3 (.bin .Mod (.bin .Add (.bin .Add (.bin .Mult (.ix (.slot 0) (.val (.int 0))) (.ix (.slot 0) (.val (.int 0)))) (.bin .Mult (.val (.int 39373)) (.ix (.slot 0) (.val (.int 0))))) (.val (.int 7))) (.val (.int 2147483629)))),(.set 3 (.bin .Mod (.bin .Add (.bin .Mult (.slot 3) (.slot 3)) (.bin .Mult (.val (.int 16807)) (.slot 3))) (.val (.int 2147483587)))),(.ret (.bin .Mod (.bin .FloorDiv (.slot 3) (.val (.int 8))) (.slot 1)))]⟩
noncomputable def lW(ti:Nat):Fx:=⟨2,4,[(.set 2 (.blt .list [(.slot 1)])),(.set 3 (.lst [])),(.while (.cmp .NotEq (.slot 2) (.lst [])) [(.expr (.append 3 (.jr 2 (.call ti [(.slot 0),(.blt .len [(.slot 2)])]))))]),(.ret (.slot 3))]⟩
noncomputable def jw(ti mi:Nat):Fx:=⟨2,5,[(.set 2 (.call mi [(.slot 0),(.d7 (.slot 1))])),(.ite (.cmp .Gt (.call ti [(.slot 0),(.val (.int 3))]) (.val (.int 0))) [(.ret (.blt .tuple [(.slot 2)]))] []),(.set 3 (.d7 (.slot 1))),(.loop (.nm 4) (.qI (.val (.int 0)) (.bin .Sub (.slot 1) (.val (.int 1))) (.val (.int 2))) [(.ite (.cmp .Eq (.call ti [(.slot 0),(.val (.int 2))]) (.val (.int 1))) [(.items2 3 (.ix (.slot 2) (.slot 4)) 3 (.ix (.slot 2) (.bin .Add (.slot 4) (.val (.int 1)))) (.tup [(.ix (.slot 2) (.bin .Add (.slot 4) (.val (.int 1)))),(.ix (.slot 2) (.slot 4))]))] [])]),(.ret (.blt .tuple [(.slot 3)]))]⟩
noncomputable def mV:Fx:=⟨2,2,[(.ite (.cmp .Lt (.slot 1) (.blt .len [(.slot 0)])) [(.ret (.ix (.slot 0) (.slot 1)))] []),(.ret (.val (.int 0)))]⟩
noncomputable def lX(ci:Nat):Fx:=⟨2,3,[(.set 2 (.call ci [(.slot 0),(.slot 1)])),(.ite (.cmp .GtE (.slot 2) (.bin .Pow (.val (.int 10)) (.val (.int 18)))) [(.ret (.lst [(.bin .Sub (.slot 2) (.bin .Pow (.val (.int 10)) (.val (.int 18)))),(.val (.bl true))]))] []),(.ret (.lst [(.bin .Mod (.slot 2) (.val (.int 2147483647))),(.val (.bl false))]))]⟩
def Tn(m:Nat)(t:List Int):Prop:=cA t=(List.range m).map λ(k:Nat)=>(k:Int)
theorem Tn.length{m:Nat}{t:List Int}(h:Tn m t):t.length=m:=by
 have:=(dB t).length_eq
 rw[h]at this
 simpa using this.symm
theorem Tn.mem{m:Nat}{t:List Int}(h:Tn m t){x:Int}:x∈t ↔ 0<=x/\x<m:=by
 rw[<- (dB t).mem_iff,h,aaD]
 constructor
 .
  rintro⟨k,hk,rfl⟩
  have:=abo.mp hk
  lia
 .
  rintro⟨h1,h2⟩
  exact⟨x.toNat,abo.mpr (by lia),by lia⟩
theorem Tn.of{m:Nat}{t:List Int}(h:t.Perm ((List.range m).map λ(k:Nat)=>(k:Int))):Tn m t:=by
 refine (o7 h.symm ?_).symm
 rw[List.pairwise_map]
 exact List.pairwise_lt_range.imp λh=>by lia
theorem Tn.perm{m:Nat}{t:List Int}(h:Tn m t):t.Perm ((List.range m).map λ(k:Nat)=>(k:Int)):=by rw[<- h];exact (dB t).symm
noncomputable def gt(t:List Int)(i:Int):Int:=t.getD i.toNat 0
theorem cJ{t:List Int}{i:Int}(h:0<=i/\i<t.length):L2.g7 (t.map D.int) i=some (.int (gt t i)):=by
 obtain⟨n,rfl⟩:∃n:Nat,i=n:=⟨i.toNat,by lia⟩
 rw[vZ t n (by lia)]
 simp[gt,(by lia:n<t.length)]
noncomputable def nums(m:Nat):List Int:=(List.range m).map λ(k:Nat)=>(k:Int)
theorem dO{m:Nat}{x:Int}:x∈nums m ↔ 0<=x/\x<m:=by
 unfold nums
 rw[aaD]
 constructor
 .
  rintro⟨k,hk,rfl⟩
  have:=abo.mp hk
  lia
 .
  rintro⟨h1,h2⟩
  exact⟨x.toNat,abo.mpr (by lia),by lia⟩
theorem iO(m:Nat):(nums m).length=m:=by simp[nums]
theorem Tn.jN{m:Nat}{t:List Int}(h:Tn m t){i:Int}(hi:0<=i/\i<m):0<=gt t i/\gt t i<m:=by
 refine h.mem.mp ?_
 have hl:=h.length
 have:i.toNat<t.length:=by lia
 unfold gt
 rw[aa6,aaZ this]
 exact List.getElem_mem _
theorem Tn.nodup{m:Nat}{t:List Int}(h:Tn m t):t.Nodup:=by
 refine (h.perm.nodup_iff).mpr ?_
 rw[abY,List.pairwise_map]
 exact List.nodup_range.imp λh=>by lia
theorem Tn.inj{m:Nat}{t:List Int}(h:Tn m t){i j:Int}(hi:0<=i/\i<m)(hj:0<=j/\j<m)(e:gt t i=gt t j):i=j:=by
 have hl:=h.length
 have h1:i.toNat<t.length:=by lia
 have h2:j.toNat<t.length:=by lia
 unfold gt at e
 rw[aa6,aaZ h1,aa6,aaZ h2]at e
 have:=(List.getElem_inj h.nodup).mp (show t[i.toNat]=t[j.toNat]from e)
 lia
theorem rT{α β:Type}{f:α->β}{l:List α}(h:l.Nodup)(hf:∀x∈l,∀y∈l,f x=f y->x=y):(l.map f).Nodup:=by
 induction l with
 |nil=>exact abg
 |cons a l ih=>
  obtain⟨h1,h2⟩:=aay.mp h
  rw[List.map_cons]
  refine aay.mpr ⟨λhm=>?_,ih h2 λx hx y hy=>hf x (aaf _ hx) y (aaf _ hy)⟩
  obtain⟨b,hb,e⟩:=aaD.mp hm
  have:=hf b (aaf _ hb) a aah e
  exact h1 (this▸hb)
theorem ug(m:Nat):Tn m (nums m):=Tn.of (abp _)
theorem M7{m:Nat}{i:Int}(h:0<=i/\i<m):gt (nums m) i=i:=by
 have:i.toNat<m:=by lia
 unfold gt nums
 simp[this]
 lia
theorem yD{m:Nat}{b:List Int}(h:b.length=m):(nums m).map (gt b)=b:=by
 subst h
 refine List.ext_getElem (by simp[nums]) λi h1 h2=>?_
 simp[nums,gt,h2]
theorem Zd{α:Type}{l:List α}{p:α->Bool}(c k:Nat)(hc:0<c)(hl:l.length<=c * k)(h:∀i,i<k->(((l.drop (c * i)).take c).all p)=true):l.all p=true:=by
 refine aaK.mpr λx hx=>?_
 obtain⟨j,hj,rfl⟩:=List.getElem_of_mem hx
 have hi:j / c<k:=Nat.div_lt_of_lt_mul (aan hj hl)
 refine aaK.mp (h (j / c) hi) _ (aaP (i:=j % c) ?_)
 rw[abl (Nat.mod_lt _ hc),List.getElem?_drop,Nat.div_add_mod,aaZ hj]
theorem aC{rn:Rn}{bor:List Nat}{k:Nat}{st:Sm}{rest:List Sm}{g g1:G}(h:aF rn bor k st g=some (.nx,g1)):fH rn bor k (st::rest) g=fH rn bor k rest g1:=by
 conv=>lhs;unfold fH
 rw[h]
noncomputable abbrev St(s:Int)(fl:Bool):Slot:=.own [.int s,.bl fl]
theorem nX(a b:Int)(h:0<b):vt .Mod (.int a) (.int b)=some (.dat (.int (a % b))):=by simp[vt,lJ,h]
theorem uh(a b:Int)(h:0<b/\b<1073741824):vt .FloorDiv (.int a) (.int b)=some (.dat (.int (a / b))):=by simp[vt,lJ,h]
theorem kI(a b:Int)(h:(-(2 ^ 64)<a/\a<2 ^ 64)\/(-(2 ^ 64)<b/\b<2 ^ 64)):vt .Mult (.int a) (.int b)=some (.dat (.int (a * b))):=by
 have:Li a b=true:=by
  unfold Li
  simp only[abu,aao,aaz]
  exact h
 simp[vt,Lj,this]
section
variable{bor:List Nat}{k n:Nat}{g g1:G}{rn:Nat->Rn}{fns:List Fx}{ti mi:Nat}(U:ud fns rn)(hT:fns[ti]?=some bC)
include U
theorem T7(s:Int)(fl:Bool)(m:Int)(hm:0<m/\m<1000):∃r s' s2 s3,0<=r/\r<m/\(rn (n+20)).b [0] k bC.body [St s fl,.dat (.int m),.no,.no]=some (.rt (.dat (.int r)),[St s' fl,.dat (.int m),s2,s3]):=by
 have i0:L2.g7 [D.int s,D.bl fl] 0=some (.int s):=rfl
 have i1:L2.g7 [D.int s,D.bl fl] 1=some (.bl fl):=rfl
 have x0':L2.qo 2 0=some 0:=rfl
 cases fl with
 |true=>
  refine⟨s % m,s / m,.dat (.int (s % m)),.no,acP _ (by lia),ace _ hm.1,?_⟩
  unfold bC
  simp! [U,i0,i1,x0',nX _ _ hm.1,uh _ _ (show 0<m/\m<1073741824 by lia)]
 |false=>
  generalize hs1:(s * 48271+29) % 2147483647=s1
  have h1:0<=s1/\s1<2147483647:=by rw[<- hs1];exact⟨acP _ (by decide),ace _ (by decide)⟩
  have j0:L2.g7 [D.int s1,D.bl false] 0=some (.int s1):=rfl
  generalize hs2:(s1 * s1+39373 * s1+7) % 2147483629=s2
  have h2:0<=s2/\s2<2147483629:=by rw[<- hs2];exact⟨acP _ (by decide),ace _ (by decide)⟩
  generalize hs3:(s2 * s2+16807 * s2) % 2147483587=s3
  refine⟨s3 / 8 % m,s1,.no,.dat (.int s3),acP _ (by lia),ace _ hm.1,?_⟩
  unfold bC
  simp! [U,i0,i1,x0',nX,kI s 48271 (.inr (by decide)),hs1,j0,kI s1 s1 (.inl (by lia)),kI 39373 s1 (.inl (by decide)),hs2,kI s2 s2 (.inl (by lia)),kI 16807 s2 (.inl (by decide)),hs3,uh _ _ (show (0:Int)<8/\(8:Int)<1073741824 by decide),hm.1]
theorem bX{i:Nat}{s:Int}{fl:Bool}{m:Int}(hi:g[i]?=some (St s fl))(hm:0<m/\m<1000):∃r s',0<=r/\r<m/\aK (rn (n+20)) bC k [.var i,.dat (.int m)] g=some (.dat (.int r),g.set i (St s' fl)):=by
 obtain⟨r,s',s2,s3,h1,h2,h⟩:=T7 U (n:=n) (k:=k) s fl m hm
 refine⟨r,s',h1,h2,?_⟩
 have hp:cT bC.n [St s fl,.dat (.int m)]=[St s fl,.dat (.int m),.no,.no]:=rfl
 unfold aK
 simp only[vars,bQ,hi,List.map_cons,List.map_nil]
 rw[aav ⟨rfl,by simp⟩,hp,h]
 rfl
omit U in
theorem Ie(a:List Int):d8 .NotEq (.lst (a.map .int)) (.lst [])=some (!decide (a=[])):=Ib a []
omit U in
theorem qa{l i:Nat}(h:i<l):L2.qo l (i:Int)=some i:=by
 unfold L2.qo
 rw[aav (by lia),aav (by lia)]
 simp
omit U in
theorem rW:∀(l:List Int) (j:Nat),(l.map D.int).eraseIdx j=(l.eraseIdx j).map .int
 | [],_=>rfl
 |_::_,0=>rfl
 |a::l,j+1=>by simp[rW l j]
omit U in
theorem v5:∀(l:List Int) (j:Nat) (h:j<l.length),([l[j]]++l.eraseIdx j).Perm l
 |a::l,0,_=>abp _
 |a::l,j+1,h=>(List.Perm.swap a _ _).trans ((v5 l j (by simpa using h)).cons a)
include hT in
theorem Ig{i:Nat}{s:Int}{fl:Bool}(th:List Int)(hi:g[i]?=some (St s fl))(hl:th.length<=10):∃(row:List Int) (s':Int),row.Perm th/\aK (rn (n+50)) (lW ti) (k+1) [.var i,.dat (.lst (th.map .int))] g=some (.new (row.map .int),g.set i (St s' fl)):=by
 have loop:=zZ (c:=(rn (n+49)).t [0] (k+1) (.cmp .NotEq (.slot 2) (.lst []))) (b:=(rn (n+49)).b [0] (k+1) [(.expr (.append 3 (.jr 2 (.call ti [(.slot 0),(.blt .len [(.slot 2)])]))))])
  (I:=λm g=>∃(s:Int) (cZ fC:List Int),cZ.length=m/\(fC++cZ).Perm th/\g=[St s fl,.dat (.lst (th.map .int)),.own (cZ.map .int),.own (fC.map .int)])
  (step:=λm g h=>by
   obtain⟨s,cZ,fC,h1,h2,rfl⟩:=h
   have aL:=h2.length_eq
   rw[aaw]at aL
   obtain⟨r,s',q1,q2,q3⟩:=bX U (n:=n+25) (k:=k) (g:=[St s fl,.dat (.lst (th.map .int)),.own (cZ.map .int),.own (fC.map .int)]) (i:=0) (s:=s) (fl:=fl) (m:=(cZ.length:Int)) rfl (by lia)
   obtain⟨j,rfl⟩:∃j:Nat,r=j:=⟨r.toNat,by lia⟩
   have hj:j<cZ.length:=by lia
   have e1:(cZ.map D.int)[j]?=some (.int cZ[j]):=by simp[hj]
   have e2:(cZ.map D.int).eraseIdx j=(cZ.eraseIdx j).map .int:=rW cZ j
   have z1:cZ.length<lim:=aan (abx _) (ak (cZ.length+1) (by lia))
   have z2:fC.length<lim:=aan (abx _) (ak (fC.length+1) (by lia))
   have ji:cZ≠[]:=λe=>by rw[e]at hj;exact absurd hj (abV _)
   refine⟨[St s fl,.dat (.lst (th.map .int)),.own (cZ.map .int),.own (fC.map .int)],[St s' fl,.dat (.lst (th.map .int)),.own ((cZ.eraseIdx j).map .int),.own ((fC++[cZ[j]]).map .int)],by simp! [U,Ie,ji],?_,s',cZ.eraseIdx j,fC++[cZ[j]],?_,?_,rfl⟩
   .
    have Bc:aK (rn (n+45)) bC k [.var 0,.dat (.int (cZ.length:Int))] [St s fl,.dat (.lst (th.map .int)),.own (cZ.map .int),.own (fC.map .int)]=some (.dat (.int j),[St s' fl,.dat (.lst (th.map .int)),.own (cZ.map .int),.own (fC.map .int)]):=q3
    simp! [U,hT,Bc,qa hj,e1,e2,z1,z2]
    simp
   .
    rw[List.length_eraseIdx_of_lt hj]
    lia
   .
    refine List.Perm.trans ?_ h2
    rw[ack]
    refine List.Perm.append_left _ ?_
    exact v5 cZ j hj)
  (fin:=λg h=>by
   obtain⟨s,cZ,fC,h1,h2,rfl⟩:=h
   have:cZ=[]:=List.eq_nil_of_length_eq_zero h1
   simp! [U,Ie,this])
 obtain⟨g',⟨s',cZ,fC,q1,q2,rfl⟩,q3⟩:=loop th.length 100000 [St s fl,.dat (.lst (th.map .int)),.own (th.map .int),.own []] (by lia) ⟨s,th,[],rfl,by simp,rfl⟩
 have hnil:cZ=[]:=List.eq_nil_of_length_eq_zero q1
 subst hnil
 rw[aaV]at q2
 refine⟨fC,s',q2,?_⟩
 have hp:cT (lW ti).n [St s fl,.dat (.lst (th.map .int))]=[St s fl,.dat (.lst (th.map .int)),.no,.no]:=rfl
 have body:(rn (n+50)).b [0] (k+1) (lW ti).body [St s fl,.dat (.lst (th.map .int)),.no,.no]=some (.rt (.var 3),[St s' fl,.dat (.lst (th.map .int)),.own [],.own (fC.map .int)]):=by
  unfold lW
  simp! [U,q3]
 unfold aK
 simp only[vars,bQ,hi,List.map_cons,List.map_nil]
 rw[aav ⟨rfl,by simp⟩,hp,body]
 rfl
omit U in
theorem M8{m:Nat}{f:List Int}(h:Tn m f){p q:Int}(hp:0<=p/\p<m)(hq:0<=q/\q<m)(ji:p≠q)(e1:gt f p=p)(e2:gt f q=q) :
  Tn m ((f.set p.toNat q).set q.toNat p)/\∀x:Int,0<=x/\x<m->x≠p->x≠q->gt ((f.set p.toNat q).set q.toNat p) x=gt f x:=by
 have hl:=h.length
 have hget:∀x:Int,0<=x/\x<m->gt ((f.set p.toNat q).set q.toNat p) x=if x=q then p else if x=p then q else gt f x:=λx hx=>by
  have hx':x.toNat<f.length:=by lia
  unfold gt
  rw[aa6,List.getElem?_set,List.getElem?_set]
  by_cases Ou:x=q
  .
   subst Ou
   simp[hx']
  .
   have n1:q.toNat≠x.toNat:=by lia
   rw[aau n1,aau Ou]
   by_cases T8:x=p
   .
    subst T8
    simp[hx']
   .
    have n2:p.toNat≠x.toNat:=by lia
    rw[aau n2,aau T8,aa6]
 refine⟨?_,λx hx n1 n2=>by rw[hget x hx,aau n2,aau n1]⟩
 have aL:((f.set p.toNat q).set q.toNat p).length=m:=by simp[hl]
 have em:((f.set p.toNat q).set q.toNat p)=(nums m).map (gt ((f.set p.toNat q).set q.toNat p)):=(yD aL).symm
 have ex:∀x∈nums m,gt ((f.set p.toNat q).set q.toNat p) x=(λy:Int=>if y=p then q else if y=q then p else y) (gt f x):=λx hx=>by
  have hx':=dO.mp hx
  rw[hget x hx']
  dsimp only
  by_cases Ou:x=q
  .
   rw[aav Ou,Ou,e2,aau (aaX ji),aav rfl]
  .
   by_cases T8:x=p
   .
    rw[aau Ou,aav T8,T8,e1,aav rfl]
   .
    have a1:gt f x≠p:=λz=>T8 (h.inj hx' hp (z.trans e1.symm))
    have a2:gt f x≠q:=λz=>Ou (h.inj hx' hq (z.trans e2.symm))
    rw[aau Ou,aau T8,aau a1,aau a2]
 rw[em,abt ex]
 have e3:(nums m).map (λx=>(λy:Int=>if y=p then q else if y=q then p else y) (gt f x))=f.map λy:Int=>if y=p then q else if y=q then p else y:=by
  conv=>rhs;rw[<- yD hl,List.map_map]
  rfl
 rw[e3]
 refine Tn.of ?_
 refine (h.perm.map _).trans ?_
 have inj:∀x y:Int,(if x=p then q else if x=q then p else x)=(if y=p then q else if y=q then p else y)->x=y:=λx y z=>by
  split at z <;> split at z <;> (try split at z) <;> (try split at z) <;> lia
 refine (List.perm_ext_iff_of_nodup (rT (ug m).nodup λx _ y _ z=>inj x y z) (ug m).nodup).mpr λx=>?_
 rw[aaD]
 constructor
 .
  rintro⟨y,hy,rfl⟩
  have:=dO.mp hy
  refine dO.mpr ?_
  split
  .
   exact hq
  .
   split
   .
    exact hp
   .
    exact this
 .
  intro hx
  have hx':=dO.mp hx
  refine⟨if x=p then q else if x=q then p else x,dO.mpr ?_,?_⟩
  .
   split
   .
    exact hq
   .
    split
    .
     exact hp
    .
     exact hx'
  .
   by_cases z1:x=p
   .
    rw[aav z1,aau (aaX ji),aav rfl];exact z1.symm
   .
    by_cases z2:x=q
    .
     rw[aau z1,aav z2,aav rfl];exact z2.symm
    .
     rw[aau z1,aau z2,aau z1,aau z2]
end
section
variable{bor:List Nat}{k n:Nat}{g g1:G}{rn:Nat->Rn}{fns:List Fx}{ti mi:Nat}(U:ud fns rn)(hT:fns[ti]?=some bC)(hM:fns[mi]?=some (lW ti))
include U hT hM
theorem z0{i:Nat}{s:Int}{fl:Bool}(m:Nat)(hm:1<=m/\m<=6)(hi:g[i]?=some (St s fl)):∃(t:List Int) (s':Int),Tn m t/\aK (rn (n+80)) (jw ti mi) (k+2) [.var i,.dat (.int m)] g=some (.dat (~~~t),g.set i (St s' fl)):=by
 have hr:cS 0 m=(nums m).map .int:=gj m
 have hl:=iO m

 obtain⟨row,s1,v7,q1⟩:=Ig U hT (n:=n+28) (k:=k) (g:=[St s fl,.dat (.int m),.no,.no,.no]) (i:=0) (s:=s) (fl:=fl) (nums m) rfl (by lia)
 have hR:Tn m row:=Tn.of v7
 have hRl:=hR.length
 have zb:aK (rn (n+78)) (lW ti) (k+1) [.var 0,.dat (.lst ((nums m).map .int))] [St s fl,.dat (.int m),.no,.no,.no]=some (.new (row.map .int),[St s1 fl,.dat (.int m),.no,.no,.no]):=q1
 have cO:aF (rn (n+79)) [0] (k+2) (.set 2 (.call mi [(.slot 0),(.d7 (.slot 1))])) [St s fl,.dat (.int m),.no,.no,.no]=some (.nx,[St s1 fl,.dat (.int m),.own (row.map .int),.no,.no]):=by
  simp! [U,hM,zb,aP m (by lia),ak m (by lia),hr]

 obtain⟨r,s2,r1,r2,q2⟩:=bX U (n:=n+57) (k:=k+1) (g:=[St s1 fl,.dat (.int m),.own (row.map .int),.no,.no]) (i:=0) (s:=s1) (fl:=fl) (m:=3) rfl (by decide)
 have xB:aK (rn (n+77)) bC (k+1) [.var 0,.dat (.int 3)] [St s1 fl,.dat (.int m),.own (row.map .int),.no,.no]=some (.dat (.int r),[St s2 fl,.dat (.int m),.own (row.map .int),.no,.no]):=q2
 have hp:cT (jw ti mi).n [St s fl,.dat (.int m)]=[St s fl,.dat (.int m),.no,.no,.no]:=rfl
 have fin:∀(t:List Int) (s':Int) (a b c:Slot),Tn m t->(rn (n+80)).b [0] (k+2) (jw ti mi).body [St s fl,.dat (.int m),.no,.no,.no]=some (.rt (.dat (~~~t)),[St s' fl,.dat (.int m),a,b,c])->∃(t:List Int) (s':Int),Tn m t/\aK (rn (n+80)) (jw ti mi) (k+2) [.var i,.dat (.int m)] g=some (.dat (~~~t),g.set i (St s' fl)):=λt s' a b c ht hb=>by
  refine⟨t,s',ht,?_⟩
  unfold aK
  simp only[vars,bQ,hi,List.map_cons,List.map_nil]
  rw[aav ⟨rfl,by simp⟩,hp,hb]
  rfl
 by_cases hr0:r > 0
 .
  refine fin row s2 (.own (row.map .int)) .no .no hR ?_
  unfold jw
  rw[U.b]
  rw[aC cO]
  simp! [U,hT,xB,hr0]
 .
  have aU:aF (rn (n+79)) [0] (k+2) (.ite (.cmp .Gt (.call ti [(.slot 0),(.val (.int 3))]) (.val (.int 0))) [(.ret (.blt .tuple [(.slot 2)]))] []) [St s1 fl,.dat (.int m),.own (row.map .int),.no,.no]=some (.nx,[St s2 fl,.dat (.int m),.own (row.map .int),.no,.no]):=by
   simp! [U,hT,xB,hr0]
  have gF:aF (rn (n+79)) [0] (k+2) (.set 3 (.d7 (.slot 1))) [St s2 fl,.dat (.int m),.own (row.map .int),.no,.no]=some (.nx,[St s2 fl,.dat (.int m),.own (row.map .int),.own ((nums m).map .int),.no]):=by
   simp! [U,aP m (by lia),ak m (by lia),hr]

  generalize hN:lF 0 ((m:Int) - 1) 2=N
  have hN2:∀j,j<N->2 * j+1<m:=λj hj=>by
   rw[<- hN]at hj
   unfold lF at hj
   split at hj
   .
    lia
   .
    lia
  have loop:=eF (T:=.nm 4) (b:=(rn (n+79)).b [0] (k+2) [(.ite (.cmp .Eq (.call ti [(.slot 0),(.val (.int 2))]) (.val (.int 1))) [(.items2 3 (.ix (.slot 2) (.slot 4)) 3 (.ix (.slot 2) (.bin .Add (.slot 4) (.val (.int 1)))) (.tup [(.ix (.slot 2) (.bin .Add (.slot 4) (.val (.int 1)))),(.ix (.slot 2) (.slot 4))]))] [])]) (λ(j:Nat)=>D.int ((j:Int) * 2))
   (I:=λl g=>∃(j:Nat) (s:Int) (f:List Int) (s4:Slot),l=List.range' j (N - j)/\Tn m f/\(∀p:Nat,2 * j<=p->p<m->gt f (gt row p)=gt row p)/\g=[St s fl,.dat (.int m),.own (row.map .int),.own (f.map .int),s4])
   (step:=λa l g h=>by
    obtain⟨j,s,f,s4,h1,h2,h3,rfl⟩:=h
    have hjN:j<N:=by
     rcases abA j N with h |h
     .
      exact h
     .
      rw[acy h]at h1;cases h1
    have hc:List.range' j (N - j)=j::List.range' (j+1) (N - (j+1)):=by
     rw[show N - j=(N - (j+1))+1 by lia,ab3]
    rw[hc]at h1
    injection h1 with e1 e2
    subst e1 e2
    have hj2:=hN2 a hjN
    obtain⟨z,hz⟩:∃z:Int,z=(a:Int) * 2:=⟨_,rfl⟩
    rw[<- hz]
    obtain⟨r,s',r1,r2,q⟩:=bX U (n:=n+56) (k:=k+1) (g:=[St s fl,.dat (.int m),.own (row.map .int),.own (f.map .int),.dat (.int z)]) (i:=0) (s:=s) (fl:=fl) (m:=2) rfl (by decide)
    have q':aK (rn (n+76)) bC (k+1) [.var 0,.dat (.int 2)] [St s fl,.dat (.int m),.own (row.map .int),.own (f.map .int),.dat (.int z)]=some (.dat (.int r),[St s' fl,.dat (.int m),.own (row.map .int),.own (f.map .int),.dat (.int z)]):=q
    by_cases hr1:r=1
    .
     have hfl:=h2.length
     have p1:=hR.jN (i:=((2 * a:Nat):Int)) (by lia)
     have p2:=hR.jN (i:=((2 * a+1:Nat):Int)) (by lia)
     have ji:gt row ((2 * a:Nat):Int)≠gt row ((2 * a+1:Nat):Int):=λz=>by have:=hR.inj (by lia) (by lia) z;lia
     obtain⟨x1,x2⟩:=M8 h2 p1 p2 ji (h3 (2 * a) (by lia) (by lia)) (h3 (2 * a+1) (by lia) (by lia))
     have a1:L2.g7 (row.map D.int) z=some (.int (gt row ((2 * a:Nat):Int))):=by rw[hz,show (a:Int) * 2=((2 * a:Nat):Int)by lia];exact cJ (by lia)
     have a2:L2.g7 (row.map D.int) (z+1)=some (.int (gt row ((2 * a+1:Nat):Int))):=by rw[hz,show (a:Int) * 2+1=((2 * a+1:Nat):Int)by lia];exact cJ (by lia)
     have n1:∀p:Nat,2 * (a+1)<=p->p<m->gt row p≠gt row ((2 * a:Nat):Int)/\gt row p≠gt row ((2 * a+1:Nat):Int):=λp h1 h2=>⟨λz=>by have:=hR.inj (by lia) (by lia) z;lia,λz=>by have:=hR.inj (by lia) (by lia) z;lia⟩
     generalize gt row ((2 * a:Nat):Int)=p at p1 ji x1 x2 a1 n1
     generalize gt row ((2 * a+1:Nat):Int)=q at p2 ji x1 x2 a2 n1
     obtain⟨pn,rfl⟩:∃pn:Nat,p=pn:=⟨p.toNat,by lia⟩
     obtain⟨qn,rfl⟩:∃qn:Nat,q=qn:=⟨q.toNat,by lia⟩
     refine⟨[St s fl,.dat (.int m),.own (row.map .int),.own (f.map .int),.dat (.int z)],[St s' fl,.dat (.int m),.own (row.map .int),.own (((f.set pn qn).set qn pn).map .int),.dat (.int z)],rfl,?_,a+1,s',_,_,rfl,(by simpa only[abW]using x1),?_,rfl⟩
     .
      have l1:L2.qo f.length (pn:Int)=some pn:=qa (by lia)
      have l2:L2.qo f.length (qn:Int)=some qn:=qa (by lia)
      simp! [U,hT,q',hr1,a1,a2,l1,l2,ak 2 (by decide)]
     .
      intro p hp1 hp2
      have hx:=n1 p hp1 hp2
      have hg:=x2 (gt row p) (hR.jN (by lia)) hx.1 hx.2
      simp only[abW]at hg
      rw[hg]
      exact h3 p (by lia) hp2
    .
     refine⟨[St s fl,.dat (.int m),.own (row.map .int),.own (f.map .int),.dat (.int z)],[St s' fl,.dat (.int m),.own (row.map .int),.own (f.map .int),.dat (.int z)],rfl,?_,a+1,s',f,_,rfl,h2,λp hp=>h3 p (by lia),rfl⟩
     simp! [U,hT,q',hr1])
  obtain⟨g',⟨j,s3,f,s4,w1,w2,w3,rfl⟩,w4⟩:=loop (List.range' 0 N) [St s2 fl,.dat (.int m),.own (row.map .int),.own ((nums m).map .int),.no] ⟨0,s2,nums m,.no,rfl,ug m,λp _ hp=>M7 (hR.jN (by lia)),rfl⟩
  refine fin f s3 (.own (row.map .int)) (.own (f.map .int)) s4 w2 ?_
  have sd:qE 0 2 N=(List.range' 0 N).map λ(j:Nat)=>D.int ((j:Int) * 2):=by unfold qE;rw[ab0];exact abt λj _=>by rw[Int.zero_add]
  have o1:vD ((m:Int) - 1)=true:=by unfold vD;simp;lia
  have o2:vD 0=true:=rfl
  have o3:vD 2=true:=rfl
  unfold jw
  rw[U.b,aC cO,aC aU,aC gF]
  simp! [U,Tg.ix,Tg.pI,gA,o1,o2,o3,hN,sd,w4]
end
section
variable{bor:List Nat}{k n:Nat}{g g1:G}{rn:Nat->Rn}{fns:List Fx}{ci:Nat}(U:ud fns rn)(hC:fns[ci]?=some mV)
include U hC
omit U hC in
theorem sG:vt .Pow (.int 10) (.int 18)=some (.dat (.int (10 ^ 18))):=by rfl
theorem Ih(ns:List Int)(hl:ns.length<=1000)(j:Nat):∃(s:Int) (fl:Bool),cN (rn (n+40)) (k+1) (lX ci) [.fix (ns.map .int),.int j]=some (.new [.int s,.bl fl]):=by
 obtain⟨v,q⟩:∃v:Int,∀n,cN (rn (n+20)) k mV [.fix (ns.map .int),.int j]=some (.dat (.int v)):=by
  by_cases h:j<ns.length
  .
   refine⟨ns[j],λn=>?_⟩
   have h':(j:Int)<ns.length:=by lia
   have:=vZ ns j h
   unfold cN mV
   simp! [U,pZ,h',this]
  .
   refine⟨0,λn=>?_⟩
   have h' : ¬ (j:Int)<ns.length:=by lia
   unfold cN mV
   simp! [U,pZ,h']
 by_cases hv:(1000000000000000000:Int)<=v
 .
  refine⟨v - 1000000000000000000,true,?_⟩
  unfold cN lX
  simp! [U,hC,aR (fx:=mV) rfl,q,sG,hv,ak 2 (by decide)]
 .
  refine⟨v % 2147483647,false,?_⟩
  unfold cN lX
  simp! [U,hC,aR (fx:=mV) rfl,q,sG,hv,ak 2 (by decide),nX]
end
noncomputable def bT:Fx:=⟨1,1,[(.ret (.and [(.qH (.slot 0) "int"),(.not (.qH (.slot 0) "bool"))]))]⟩
noncomputable def bA(w:Nat):Fx:=⟨3,3,[(.ret (.and [(.call w [(.slot 0)]),(.chain (.slot 1) [.LtE,.LtE] [(.slot 0),(.slot 2)])]))]⟩
noncomputable def isInt:D->Bool
 |.int _=>true
 |_=>false
noncomputable def wL(lo hi:Int):D->Bool
 |.int i=>decide (lo<=i/\i<=hi)
 |_=>false
noncomputable def kJ(m:Nat):D->Bool
 |.tup l=>match bZ l with
  |some t=>decide (cA t=nums m)
  |none=>false
 |_=>false
noncomputable def nF:D->Prop
 |.tup l=>l.length<=20/\∀x∈l,fO x=true/\dep x<=5
 |_=>True
theorem lY:∀{l:List D},l.all isInt=true->∃t:List Int,l=t.map .int
 | [],_=>⟨[],rfl⟩
 |d::l,h=>by
  rw[List.all_cons,aao]at h
  obtain⟨t,rfl⟩:=lY h.2
  cases d with
  |int i=>exact⟨i::t,rfl⟩
  |_=>cases h.1
theorem v8:∀{l:List D},l.all isInt=false->bZ l=none
 | [],h=>by cases h
 |d::l,h=>by
  cases d with
  |int i=>
   have:l.all isInt=false:=by simpa [isInt]using h
   show (match bZ l with |some ns=>some (i::ns) |none=>none)=none
   rw[v8 this]
  |_=>rfl
theorem v9:∀{l:List D},(∀x∈l,fO x=true)->fD l=true
 | [],_=>rfl
 |d::l,h=>by
  show (fO d&&fD l)=true
  rw[h d aah,v9 λx hx=>h x (aaf _ hx)]
  rfl
theorem wc{c:Nat}:∀{l:List D},(∀x∈l,dep x<=c)->deps l<=c
 | [],_=>abf _
 |d::l,h=>by
  have h1:=h d aah
  have h2:=wc λx hx=>h x (aaf _ hx)
  show max (dep d) (deps l)<=c
  lia
theorem T9{l:List D}(h:∀x∈l,fO x=true/\dep x<=5):d8 .NotEq (.lst l) (.lst [])=some (!l.isEmpty):=by
 have h1:fD l=true:=v9 λx hx=>(h x hx).1
 have h2:deps l<=5:=wc λx hx=>(h x hx).2
 have h3:dep (.lst l)<=190:=by show deps l+1<=190;lia
 have:eV (.lst l) (.lst [])=true:=by
  simp only[eV,fO,h1,fD,Bool.and_true,Bool.true_and,aaz]
  exact h3
 simp only[d8,this,abM,bL]
 cases l <;> rfl
section
variable{k n:Nat}{g g1:G}{rn:Nat->Rn}{fns:List Fx}{w wi mw it ci cj:Nat}(U:ud fns rn)
include U
theorem gq(d:D):cN (rn (n+6)) k bT [d]=some (.dat (.bl (isInt d))):=by
 unfold cN bT
 cases d <;> simp! [U,eW,j8,isInt]
variable(hW:fns[w]?=some bT)
include hW
theorem gu(d:D)(lo hi:Int):cN (rn (n+14)) (k+1) (bA w) [d,.int lo,.int hi]=some (.dat (.bl (wL lo hi d))):=by
 unfold cN bA
 cases d with
 |int i=>
  by_cases h1:lo<=i
  .
   by_cases h2:i<=hi
   .
    simp! [U,hW,bI (fx:=bT) rfl,gq U,isInt,wL,h1,h2]
   .
    simp! [U,hW,bI (fx:=bT) rfl,gq U,isInt,wL,h1,h2]
  .
   simp! [U,hW,bI (fx:=bT) rfl,gq U,isInt,wL,h1]
 |_=>simp! [U,hW,bI (fx:=bT) rfl,gq U,isInt,wL]
omit U hW in
theorem yE{rn:Rn}{bor:List Nat}{k:Nat}{e:Ex}{rest:List Sm}{g:G}:eX rn bor k (.ret e::rest) g=rn.x bor k e g:=by
 unfold eX
 simp only[gQ]
 cases rn.x bor k e g with
 |some r=>rfl
 |none=>
  simp only[aF]
  cases rn.e bor k e g with
  |none=>rfl
  |some p=>rfl
omit hW in
theorem z5(d1 d2 d3:D):fM (rn (n+14)) k (bA w) [d1,d2,d3]=none:=by
 unfold fM bA
 rw[U.xb,yE]
 simp! [U,U.e]
end
noncomputable def cM(i ci:Nat):Fx:=⟨3,3,[(.ite (.not (.call i [(.slot 0),(.slot 1),(.slot 2)])) [(.raise ci (.qJ [(false,(.val (.str (PySem.Str.ofString "no whole number from ")))),(true,(.slot 1)),(false,(.val (.str (PySem.Str.ofString " to ")))),(true,(.slot 2))]))] [])]⟩
noncomputable def bq(mw w:Nat):Fx:=⟨2,2,[(.expr (.call mw [(.slot 0),(.val (.int 1)),(.val (.int 6))])),(.ite (.or [(.not (.qH (.slot 1) "tuple")),(.not (.blt .all [(.comp 2 2 (.nm 3) (.slot 1) none (.call w [(.slot 3)]))]))]) [(.ret (.val (.bl false)))] []),(.ret (.cmp .Eq (.blt .sorted [(.slot 1)]) (.d7 (.slot 0))))]⟩
noncomputable def aJ(it ci:Nat):Fx:=⟨2,2,[(.ite (.not (.call it [(.slot 0),(.slot 1)])) [(.raise ci (.qJ [(false,(.val (.str (PySem.Str.ofString "no turn of ")))),(true,(.slot 0))]))] [])]⟩
noncomputable def cW(w:Nat):Fx:=⟨2,2,[(.ite (.or [(.not (.qH (.slot 1) "tuple")),(.cmp .NotEq (.comp 2 2 (.nm 3) (.slot 1) (some (.not (.call w [(.slot 3)]))) (.slot 3)) (.lst []))]) [(.ret (.val (.bl false)))] []),(.ret (.cmp .Eq (.blt .sorted [(.slot 1)]) (.d7 (.slot 0))))]⟩
section
variable{k n:Nat}{g g1:G}{rn:Nat->Rn}{fns:List Fx}{w wi mw it ci cj:Nat}(U:ud fns rn)
include U
variable(hW:fns[w]?=some bT)
include hW
variable(hI:fns[wi]?=some (bA w))
include hI
theorem M9(d:D)(lo hi:Int)(h:wL lo hi d=true):cN (rn (n+24)) (k+2) (cM wi ci) [d,.int lo,.int hi]=some (.dat .non):=by
 unfold cN cM
 simp! [U,hI,cE (fx:=bA w) rfl,gu U hW,h]
theorem X5(d:D)(lo hi:Int)(h:wL lo hi d=true):fM (rn (n+24)) (k+2) (cM wi ci) [d,.int lo,.int hi]=none:=by
 unfold fM cM
 simp! [U,hI,eu (fx:=bA w) rfl,z5 U,cE (fx:=bA w) rfl,gu U hW,h]
theorem Ua(d:D)(h:wL 1 6 d=false):fM (rn (n+24)) (k+2) (cM wi ci) [d,.int 1,.int 6]=some ci:=by
 have e:∀(n k:Nat),yd (rn (n+1)) [] k PySem.Str.empty [(false,(.val (.str (PySem.Str.ofString "no whole number from ")))),(true,(.slot 1)),(false,(.val (.str (PySem.Str.ofString " to ")))),(true,(.slot 2))] [.dat d,.dat (.int 1),.dat (.int 6)]=some (PySem.Str.ofString "no whole number from 1 to 6",[.dat d,.dat (.int 1),.dat (.int 6)]):=λn k=>by
  simp only[yd,dY,U.e,aN,toD]
  rfl
 unfold fM cM
 simp! [U,hI,eu (fx:=bA w) rfl,z5 U,cE (fx:=bA w) rfl,gu U hW,h,e]
end
section
variable{k n:Nat}{g g1:G}{rn:Nat->Rn}{fns:List Fx}{w wi mw it ci cj:Nat}(U:ud fns rn)(hW:fns[w]?=some bT)
include U hW
theorem Ub{d0:D}(l:List D)(h:l.length<=lim):dh (rn (n+12)) [] (k+1) 2 2 (.nm 3) (.slot 1) none (.call w [.slot 3]) [.dat d0,.dat (.tup l)]=some ((l.map isInt).map .bl,[.dat d0,.dat (.tup l)]):=by
 rw[List.map_map]
 have:=kG (rn:=rn (n+12)) (bor:=[]) (k:=k+1) (g:=[.dat d0,.dat (.tup l)]) (g1:=[.dat d0,.dat (.tup l)]) (kk:=2) (nn:=2) (j:=3) (it:=.slot 1) (e:=.call w [.slot 3]) l id (λx=>.bl (isInt x)) (by simp! [U,gA]) rfl (by simp) (by simp) (by simp) h λa _ G' hG=>by
  have h2:=hG.2
  simp only[id]at h2
  simp! [U,h2,hW,bI (fx:=bT) rfl,gq U]
 exact this
theorem others{d0:D}(l:List D)(h:l.length<=lim):dh (rn (n+12)) [] (k+1) 2 2 (.nm 3) (.slot 1) (some (.not (.call w [.slot 3]))) (.slot 3) [.dat d0,.dat (.tup l)]=some (l.filter λx=>!isInt x,[.dat d0,.dat (.tup l)]):=by
 have:=HW (rn:=rn (n+12)) (bor:=[]) (k:=k+1) (g:=[.dat d0,.dat (.tup l)]) (g1:=[.dat d0,.dat (.tup l)]) (kk:=2) (nn:=2) (j:=3) (it:=.slot 1) (c:=some (.not (.call w [.slot 3]))) (e:=.slot 3) l id (λx=>!isInt x) id (by simp! [U,gA]) rfl (by simp) (by simp) (by simp) h (λa _ G' hG=>by
  have h2:=hG.2
  simp only[id]at h2
  simp! [U,BZ,h2,hW,bI (fx:=bT) rfl,gq U]) λa _ _ G' hG=>by
  have h2:=hG.2
  simp only[id]at h2
  simp! [U,h2]
 rw[List.map_id]at this
 exact this
omit U hW in
theorem Cy(l:List D):(l.map isInt).all id=l.all isInt:=by simp[List.all_map]
omit U hW in
theorem lZ(m:Nat)(t:List Int):kJ m (~~~t)=decide (cA t=nums m):=by
 show (match bZ (t.map .int)with |some t=>decide (cA t=nums m) |none=>false)=_
 rw[ints_map]
omit U hW in
theorem z6(m:Nat){l:List D}(h:l.all isInt=false):kJ m (.tup l)=false:=by
 show (match bZ l with |some t=>decide (cA t=nums m) |none=>false)=_
 rw[v8 h]
omit U hW in
theorem filter_none{l:List D}(h:l.all isInt=true):(l.filter λx=>!isInt x)=[]:=by
 rw[List.filter_eq_nil_iff]
 intro x hx
 rw[aaK.mp h x hx]
 simp
omit U hW in
theorem filter_some{l:List D}(h:l.all isInt=false):(l.filter λx=>!isInt x).isEmpty=false:=by
 cases e:(l.filter λx=>!isInt x)with
 |cons a b=>rfl
 |nil=>
  rw[List.filter_eq_nil_iff]at e
  have:l.all isInt=true:=aaK.mpr λx hx=>by
   have:=e x hx
   cases z:isInt x
   .
    rw[z]at this;exact absurd rfl this
   .
    rfl
  rw[this]at h
  cases h
theorem qg(m:Nat)(hm:1<=m/\m<=6)(d:D)(hd:nF d):cN (rn (n+40)) (k+4) (cW w) [.int m,d]=some (.dat (.bl (kJ m d))):=by
 cases d with
 |tup l=>
  obtain⟨h1,h2⟩:=hd
  have o:=λn k=>others U hW (n:=n) (k:=k) (d0:=.int m) l (ak _ (by lia))
  cases e:l.all isInt with
  |true=>
   rw[filter_none e]at o
   obtain⟨t,rfl⟩:=lY e
   have hl:t.length<64:=by have:=aaA (as:=t) D.int;lia
   have hr:cS 0 m=(nums m).map .int:=gj m
   rw[lZ]
   have c0:d8 .NotEq (.lst []) (.lst [])=some false:=rfl
   unfold cN cW
   simp! [U,o,c0,iN t hl,aP m (by lia),ak m (by lia),hr]
  |false=>
   have c0:d8 .NotEq (.lst (l.filter λx=>!isInt x)) (.lst [])=some true:=by
    rw[T9 λx hx=>h2 x (aaE.mp hx).1,filter_some e]
    rfl
   rw[z6 m e]
   unfold cN cW
   simp! [U,o,c0]
 |_=>
  unfold cN cW
  simp! [U,eW,j8,kJ]
variable(hI:fns[wi]?=some (bA w))(hM:fns[mw]?=some (cM wi ci))
include hI hM
theorem gw(m:Nat)(hm:1<=m/\m<=6)(d:D)(hd:nF d):cN (rn (n+40)) (k+4) (bq mw w) [.int m,d]=some (.dat (.bl (kJ m d)))/\fM (rn (n+40)) (k+4) (bq mw w) [.int m,d]=none:=by
 have hi:wL 1 6 (.int m)=true:=by
  show decide ((1:Int)<=m/\(m:Int)<=6)=true
  rw[aaz]
  lia
 have mu:=λn k=>M9 U hW hI (n:=n) (k:=k) (ci:=ci) (.int m) 1 6 hi
 have mx:=λn k=>X5 U hW hI (n:=n) (k:=k) (ci:=ci) (.int m) 1 6 hi
 cases d with
 |tup l=>
  obtain⟨h1,h2⟩:=hd
  have o:=λn k=>Ub U hW (n:=n) (k:=k) (d0:=.int m) l (ak _ (by lia))
  have ha:=Cy l
  cases e:l.all isInt with
  |true=>
   rw[e]at ha
   obtain⟨t,rfl⟩:=lY e
   have hl:t.length<64:=by have:=aaA (as:=t) D.int;lia
   have hr:cS 0 m=(nums m).map .int:=gj m
   rw[lZ]
   unfold cN fM bq
   constructor
   .
    simp! [U,hM,cE (fx:=cM wi ci) rfl,mu,o,p7,ha,iN t hl,aP m (by lia),ak m (by lia),hr]
   .
    simp! [U,hM,cE (fx:=cM wi ci) rfl,mu,eu (fx:=cM wi ci) rfl,mx,o,p7,ha,iN t hl,aP m (by lia),ak m (by lia),hr]
  |false=>
   rw[e]at ha
   rw[z6 m e]
   unfold cN fM bq
   constructor
   .
    simp! [U,hM,cE (fx:=cM wi ci) rfl,mu,o,p7,ha]
   .
    simp! [U,hM,cE (fx:=cM wi ci) rfl,mu,eu (fx:=cM wi ci) rfl,mx,o,p7,ha]
 |_=>
  unfold cN fM bq
  constructor
  .
   simp! [U,hM,cE (fx:=cM wi ci) rfl,mu,eW,j8,kJ]
  .
   simp! [U,hM,cE (fx:=cM wi ci) rfl,mu,eu (fx:=cM wi ci) rfl,mx,eW,j8]
theorem wg(b d:D)(h:wL 1 6 b=false):fM (rn (n+40)) (k+4) (bq mw w) [b,d]=some ci:=by
 have mx:=λn k=>Ua U hW hI (n:=n) (k:=k) (ci:=ci) b h
 unfold fM bq
 simp! [U,hM,eu (fx:=cM wi ci) rfl,mx]
variable(hT:fns[it]?=some (bq mw w))
include hT
theorem mW(b d:D)(h:wL 1 6 b=false):fM (rn (n+50)) (k+5) (aJ it cj) [b,d]=some ci:=by
 have q:=λn k=>wg U hW hI hM (n:=n) (k:=k) b d h
 unfold fM aJ
 simp! [U,hT,bJ (fx:=bq mw w) rfl,q]
theorem mX(m:Nat)(hm:1<=m/\m<=6)(d:D)(hd:nF d)(h:kJ m d=false):fM (rn (n+50)) (k+5) (aJ it cj) [.int m,d]=some cj:=by
 have q1:=λn k=>(gw U hW hI hM (n:=n) (k:=k) m hm d hd).1
 have q2:=λn k=>(gw U hW hI hM (n:=n) (k:=k) m hm d hd).2
 rw[h]at q1
 have e:∃x,∀(n k:Nat),yd (rn (n+1)) [] k PySem.Str.empty [(false,(.val (.str (PySem.Str.ofString "no turn of ")))),(true,(.slot 0))] [.dat (.int m),.dat d]=some (x,[.dat (.int m),.dat d]):=by
  obtain⟨h1,h2⟩:=hm
  match m,h1,h2 with
  | 1,_,_=>exact⟨_,λn k=>by simp only[yd,dY,U.e,aN,toD];rfl⟩
  | 2,_,_=>exact⟨_,λn k=>by simp only[yd,dY,U.e,aN,toD];rfl⟩
  | 3,_,_=>exact⟨_,λn k=>by simp only[yd,dY,U.e,aN,toD];rfl⟩
  | 4,_,_=>exact⟨_,λn k=>by simp only[yd,dY,U.e,aN,toD];rfl⟩
  | 5,_,_=>exact⟨_,λn k=>by simp only[yd,dY,U.e,aN,toD];rfl⟩
  | 6,_,_=>exact⟨_,λn k=>by simp only[yd,dY,U.e,aN,toD];rfl⟩
 obtain⟨x,e⟩:=e
 unfold fM aJ
 simp! [U,hT,bJ (fx:=bq mw w) rfl,aR (fx:=bq mw w) rfl,q1,q2,e]
end
noncomputable def cC(i:Nat):Fx:=⟨2,2,[(.ite (.tN (.slot 1) ["tuple", "list"]) [(.ite (.or [(.cmp .NotEq (.qH (.slot 0) "tuple") (.qH (.slot 1) "tuple")),(.cmp .NotEq (.qH (.slot 0) "list") (.qH (.slot 1) "list"))]) [(.ret (.val (.bl false)))] []),(.ite (.cmp .NotEq (.blt .len [(.slot 0)]) (.blt .len [(.slot 1)])) [(.ret (.val (.bl false)))] []),(.ret (.blt .all [(.comp 2 3 (.tp [3,4]) (.zip (.slot 0) (.slot 1)) none (.call i [(.slot 3),(.slot 4)]))]))] []),(.ret (.and [(.cmp .Eq (.slot 0) (.slot 1)),(.cmp .Eq (.qH (.slot 0) "bool") (.qH (.slot 1) "bool"))]))]⟩
theorem nY{l:List D}{r:Int}(h:0<=r/\r<l.length):∃x∈l,L2.g7 l r=some x:=by
 obtain⟨j,rfl⟩:∃j:Nat,r=j:=⟨r.toNat,by lia⟩
 have hj:j<l.length:=by lia
 exact⟨l[j],List.getElem_mem hj,nW l j hj⟩
theorem kK(l m:List D)(h:l.length+m.length<=1000):vt .Add (.tup l) (.tup m)=some (.dat (.tup (l++m))):=by
 show (if l.length+m.length<=lim then _ else _)=_
 rw[aav (ak _ h)]
theorem nZ(l m:List D)(h:l.length+m.length<=1000):vt .Add (.lst l) (.lst m)=some (.new (l++m)):=by
 show (if l.length+m.length<=lim then _ else _)=_
 rw[aav (ak _ h)]
noncomputable def Sd:Nat->D->Prop
 |_,.int _=>True
 |_,.bl _=>True
 |_,.str _=>True
 |_,.non=>True
 |c+1,.tup l=>l.length<=1000/\∀x∈l,Sd c x
 |c+1,.lst l=>l.length<=1000/\∀x∈l,Sd c x
 |_,_=>False
theorem wj:∀l:List D,tL l l=l.map λa=>D.tup [a,a]
 | []=>rfl
 |a::l=>by
  show D.tup [a,a]::tL l l=_
  rw[wj l]
  rfl
theorem all_true{α:Type}(l:List α):(l.map λ_=>true).all id=true:=by simp
section
variable{k n:Nat}{g g1:G}{rn:Nat->Rn}{fns:List Fx}{i:Nat}(U:ud fns rn)
include U
theorem wk{c:Nat}(hS:fns[i]?=some (cC i))(ih:∀n k d,Sd c d->cN (rn (n+20 * c+20)) (k+c) (cC i) [d,d]=some (.dat (.bl true))){d:D}{l:List D}(hw:∀n k,gA (rn (n+2)) [] k true (.zip (.slot 0) (.slot 1)) [.dat d,.dat d]=some (tL l l,[.dat d,.dat d]))(hl:l.length<=1000)(h:∀x∈l,Sd c x):∀n k,dh (rn (n+20 * c+23)) [] (k+c+1) 2 3 (.tp [3,4]) (.zip (.slot 0) (.slot 1)) none (.call i [(.slot 3),(.slot 4)]) [.dat d,.dat d]=some ((l.map λ_=>true).map .bl,[.dat d,.dat d]):=λn k=>by
 rw[List.map_map]
 exact yy (rn:=rn (n+20 * c+23)) (bor:=[]) (k:=k+c+1) (g:=[.dat d,.dat d]) (g1:=[.dat d,.dat d]) (kk:=3) (nn:=2) (j1:=3) (j2:=4) l id id _ (by rw[hw (n+20 * c+21)];rw[wj];rfl) rfl (by simp) (by simp) (by simp) (by simp) (by simp) (by simp) (by simp) (ak _ hl) λa ha G' hG=>by
  have h1:=hG.2.1
  have h2:=hG.2.2
  simp only[id]at h1 h2
  have q:=ih (n+2) k a (h a ha)
  rw[show n+2+20 * c+20=n+20 * c+22 by lia]at q
  simp! [U,h1,h2,hS,aR (fx:=cC i) rfl,q]
theorem kL(hS:fns[i]?=some (cC i)):∀(c n k:Nat) (d:D),Sd c d->cN (rn (n+20 * c+20)) (k+c) (cC i) [d,d]=some (.dat (.bl true))
 | 0,n,k,d,h=>by
  cases d with
  |int j=>unfold cN cC;simp! [U,j8,eW,d8,eV,bL,fO,dep]
  |bl j=>unfold cN cC;simp! [U,j8,eW,d8,eV,bL,fO,dep]
  |str j=>unfold cN cC;simp! [U,j8,eW,d8,eV,bL,fO,dep]
  |non=>unfold cN cC;simp! [U,j8,eW,d8,eV,bL,fO,dep]
  |_=>exact h.elim
 |c+1,n,k,d,h=>by
  have ih:=kL hS c
  rw[show n+20 * (c+1)+20=n+20 * c+40 by lia,show k+(c+1)=k+c+1 by lia]
  cases d with
  |int j=>unfold cN cC;simp! [U,j8,eW,d8,eV,bL,fO,dep]
  |bl j=>unfold cN cC;simp! [U,j8,eW,d8,eV,bL,fO,dep]
  |str j=>unfold cN cC;simp! [U,j8,eW,d8,eV,bL,fO,dep]
  |non=>unfold cN cC;simp! [U,j8,eW,d8,eV,bL,fO,dep]
  |tup l=>
   have w:=wk U hS ih (d:=.tup l) (l:=l) (λn k=>by simp! [U,gA,cR,isTup]) h.1 h.2
   have w':=w (n+13) k
   rw[show n+13+20 * c+23=n+20 * c+36 by lia]at w'
   unfold cN cC
   simp! [U,j8,eW,d8,eV,bL,fO,dep,w',all_true]
  |lst l=>
   have w:=wk U hS ih (d:=.lst l) (l:=l) (λn k=>by simp! [U,gA,cR,isTup]) h.1 h.2
   have w':=w (n+13) k
   rw[show n+13+20 * c+23=n+20 * c+36 by lia]at w'
   unfold cN cC
   simp! [U,j8,eW,d8,eV,bL,fO,dep,w',all_true]
  |_=>exact h.elim
end
noncomputable def mY(ti:Nat):Fx:=⟨2,7,[(.par 2 3 (.call ti [(.slot 0),(.blt .len [(.slot 1)])]) (.call ti [(.slot 0),(.blt .len [(.slot 1)])])),(.set 4 (.ix (.lst [(.ix (.slot 1) (.slot 3)),(.blt .len [(.slot 1)]),(.neg (.val (.int 1))),(.val (.bl true)),(.val .non),(.val (.str (PySem.Str.ofString "0"))),(.tup [(.val (.int 0))]),(.bin .Pow (.val (.int 10)) (.val (.int 29))),(.val (.bl false))]) (.call ti [(.slot 0),(.val (.int 9))]))),(.set 5 (.blt .list [(.slot 1)])),(.items2 5 (.slot 2) 5 (.slot 3) (.tup [(.ix (.slot 1) (.slot 3)),(.ix (.slot 1) (.slot 2))])),(.set 6 (.lst [(.bin .Add (.bin .Add (.slice (.slot 1) none (some (.slot 2))) (.tup [(.slot 4)])) (.slice (.slot 1) (some (.bin .Add (.slot 2) (.val (.int 1)))) none)),(.bin .Add (.slice (.slot 1) none (some (.slot 2))) (.slice (.slot 1) (some (.bin .Add (.slot 2) (.val (.int 1)))) none)),(.bin .Add (.bin .Add (.slice (.slot 1) none (some (.slot 2))) (.tup [(.slot 4)])) (.slice (.slot 1) (some (.slot 2)) none)),(.blt .list [(.slot 1)]),(.val .non)])),(.ret (.ix (.bin .Add (.slot 6) (.lst [(.blt .tuple [(.slot 5)]),(.rev (.slot 1)),(.bin .Add (.slice (.slot 1) (some (.slot 2)) none) (.slice (.slot 1) none (some (.slot 2)))),.emp,(.val (.int 0)),(.tup [(.slot 1)]),(.slot 1),(.tup [])])) (.call ti [(.slot 0),(.val (.int 13))])))]⟩
noncomputable def gW(ti:Nat):Fx:=⟨2,2,[(.ret (.ix (.lst [(.val (.int 0)),(.bin .Add (.slot 1) (.val (.int 1))),(.neg (.val (.int 1))),(.val (.bl true)),(.val .non),(.val (.str (PySem.Str.ofString "2"))),(.tup [(.val (.int 2))]),(.bin .Pow (.val (.int 10)) (.val (.int 29))),(.lst [(.val (.int 1))]),(.bin .Add (.slot 1) (.val (.int 2)))]) (.call ti [(.slot 0),(.val (.int 10))])))]⟩
theorem qh{α:Type}(l:List α)(i j:Option Int):(iG l i j).length<=l.length:=by
 unfold iG
 rw[abn,List.length_drop]
 lia
theorem qi{α:Type}{l:List α}{i j:Option Int}{x:α}(h:x∈iG l i j):x∈l:=List.mem_of_mem_drop (List.mem_of_mem_take h)
def Pl(x:D):Prop:=fO x=true/\dep x<=5
theorem Pl.int(i:Int):Pl (.int i):=⟨rfl,abf _⟩
theorem Pl.ints{t:List Int}{x:D}(h:x∈t.map D.int):Pl x:=by
 obtain⟨i,_,rfl⟩:=aaD.mp h
 exact .int i
theorem Pl.tup{t:List Int}:Pl (~~~t):=by
 refine⟨eG t,?_⟩
 show deps (t.map .int)+1<=5
 rw[gi]
 decide
theorem wm:vt .Pow (.int 10) (.int 29)=some (.dat (.int (10 ^ 29))):=by rfl
section
variable{k n:Nat}{g g1:G}{rn:Nat->Rn}{fns:List Fx}{ti:Nat}(U:ud fns rn)(hT:fns[ti]?=some bC)
include U hT
theorem Cz{i:Nat}{s:Int}{fl:Bool}(hi:g[i]?=some (St s fl)):∃(b:D) (s':Int),wL 1 6 b=false/\aK (rn (n+60)) (gW ti) (k+1) [.var i,.dat (.int 6)] g=some (.dat b,g.set i (St s' fl)):=by
 obtain⟨r,s',r1,r2,q⟩:=bX U (n:=n+37) (k:=k) (g:=[St s fl,.dat (.int 6)]) (i:=0) (s:=s) (fl:=fl) (m:=10) rfl (by decide)
 have q':aK (rn (n+57)) bC k [.var 0,.dat (.int 10)] [St s fl,.dat (.int 6)]=some (.dat (.int r),[St s' fl,.dat (.int 6)]):=q
 obtain⟨b,hb,e⟩:=nY (l:=[D.int 0,.int 7,.int (-1),.bl true,.non,.str (PySem.Str.ofString "2"),.tup [.int 2],.int 100000000000000000000000000000,.lst [.int 1],.int 8]) (r:=r) ⟨r1,r2⟩
 refine⟨b,s',?_,?_⟩
 .
  simp only[aaj,aaO,abO]at hb
  rcases hb with rfl |rfl |rfl |rfl |rfl |rfl |rfl |rfl |rfl |rfl <;> rfl
 .
  have body:(rn (n+60)).b [0] (k+1) (gW ti).body [St s fl,.dat (.int 6)]=some (.rt (.dat b),[St s' fl,.dat (.int 6)]):=by
   unfold gW
   simp! [U,hT,q',wm,ak 1 (by decide),ak 10 (by decide),e]
  have hp:cT (gW ti).n [St s fl,.dat (.int 6)]=[St s fl,.dat (.int 6)]:=rfl
  unfold aK
  simp only[vars,bQ,hi,List.map_cons,List.map_nil]
  rw[aav ⟨rfl,by simp⟩,hp,body]
  rfl
theorem z7{i:Nat}{s:Int}{fl:Bool}(m:Nat)(hm:1<=m/\m<=6)(t:List Int)(ht:Tn m t)(hi:g[i]?=some (St s fl)):∃(d:D) (s':Int),nF d/\aK (rn (n+60)) (mY ti) (k+1) [.var i,.dat (~~~t)] g=some (.dat d,g.set i (St s' fl)):=by
 have hl:=ht.length
 have hml:(t.map D.int).length=m:=by rw[aaA,hl]

 obtain⟨p,s1,p1,p2,q1⟩:=bX U (n:=n+38) (k:=k) (g:=[St s fl,.dat (~~~t),.no,.no,.no,.no,.no]) (i:=0) (s:=s) (fl:=fl) (m:=(t.length:Int)) rfl (by lia)
 have zb:aK (rn (n+58)) bC k [.var 0,.dat (.int (t.length:Int))] [St s fl,.dat (~~~t),.no,.no,.no,.no,.no]=some (.dat (.int p),[St s1 fl,.dat (~~~t),.no,.no,.no,.no,.no]):=q1
 obtain⟨q,s2,p3,p4,q2⟩:=bX U (n:=n+38) (k:=k) (g:=[St s1 fl,.dat (~~~t),.no,.no,.no,.no,.no]) (i:=0) (s:=s1) (fl:=fl) (m:=(t.length:Int)) rfl (by lia)
 have xB:aK (rn (n+58)) bC k [.var 0,.dat (.int (t.length:Int))] [St s1 fl,.dat (~~~t),.no,.no,.no,.no,.no]=some (.dat (.int q),[St s2 fl,.dat (~~~t),.no,.no,.no,.no,.no]):=q2
 have e1:aF (rn (n+59)) [0] (k+1) (.par 2 3 (.call ti [(.slot 0),(.blt .len [(.slot 1)])]) (.call ti [(.slot 0),(.blt .len [(.slot 1)])])) [St s fl,.dat (~~~t),.no,.no,.no,.no,.no]=some (.nx,[St s2 fl,.dat (~~~t),.dat (.int p),.dat (.int q),.no,.no,.no]):=by
  simp! [U,hT,zb,xB]

 obtain⟨r,s3,r1,r2,q3⟩:=bX U (n:=n+37) (k:=k) (g:=[St s2 fl,.dat (~~~t),.dat (.int p),.dat (.int q),.no,.no,.no]) (i:=0) (s:=s2) (fl:=fl) (m:=9) rfl (by decide)
 have Bc:aK (rn (n+57)) bC k [.var 0,.dat (.int 9)] [St s2 fl,.dat (~~~t),.dat (.int p),.dat (.int q),.no,.no,.no]=some (.dat (.int r),[St s3 fl,.dat (~~~t),.dat (.int p),.dat (.int q),.no,.no,.no]):=q3
 have ap:=cJ (t:=t) (i:=p) ⟨p1,p2⟩
 have aq:=cJ (t:=t) (i:=q) ⟨p3,p4⟩
 obtain⟨o,ho,eo⟩:=nY (l:=[.int (gt t q),.int (t.length:Int),.int (-1),.bl true,.non,.str (PySem.Str.ofString "0"),.tup [.int 0],.int 100000000000000000000000000000,.bl false]) (r:=r) ⟨r1,r2⟩
 have hop:Pl o:=by
  simp only[aaj,aaO,abO]at ho
  rcases ho with rfl |rfl |rfl |rfl |rfl |rfl |rfl |rfl |rfl <;> exact⟨rfl,by first |exact abf _ |decide⟩
 have e2:aF (rn (n+59)) [0] (k+1) (.set 4 (.ix (.lst [(.ix (.slot 1) (.slot 3)),(.blt .len [(.slot 1)]),(.neg (.val (.int 1))),(.val (.bl true)),(.val .non),(.val (.str (PySem.Str.ofString "0"))),(.tup [(.val (.int 0))]),(.bin .Pow (.val (.int 10)) (.val (.int 29))),(.val (.bl false))]) (.call ti [(.slot 0),(.val (.int 9))]))) [St s2 fl,.dat (~~~t),.dat (.int p),.dat (.int q),.no,.no,.no]=some (.nx,[St s3 fl,.dat (~~~t),.dat (.int p),.dat (.int q),.dat o,.no,.no]):=by
  simp! [U,hT,Bc,aq,wm,ak 1 (by decide),ak 9 (by decide),eo]
 have e3:aF (rn (n+59)) [0] (k+1) (.set 5 (.blt .list [(.slot 1)])) [St s3 fl,.dat (~~~t),.dat (.int p),.dat (.int q),.dat o,.no,.no]=some (.nx,[St s3 fl,.dat (~~~t),.dat (.int p),.dat (.int q),.dat o,.own (t.map .int),.no]):=by
  simp! [U,U.e]
 obtain⟨pn,rfl⟩:∃pn:Nat,p=pn:=⟨p.toNat,by lia⟩
 obtain⟨qn,rfl⟩:∃qn:Nat,q=qn:=⟨q.toNat,by lia⟩
 have l1:L2.qo t.length (pn:Int)=some pn:=qa (by lia)
 have l2:L2.qo t.length (qn:Int)=some qn:=qa (by lia)
 generalize hv:((t.map D.int).set pn (.int (gt t qn))).set qn (.int (gt t pn))=ex
 have hex:ex.length<=6/\∀x∈ex,Pl x:=by
  rw[<- hv]
  refine⟨by simp;lia,λx hx=>?_⟩
  rcases List.mem_or_eq_of_mem_set hx with hx |rfl
  .
   rcases List.mem_or_eq_of_mem_set hx with hx |rfl
   .
    exact .ints hx
   .
    exact .int _
  .
   exact .int _
 have e4:aF (rn (n+59)) [0] (k+1) (.items2 5 (.slot 2) 5 (.slot 3) (.tup [(.ix (.slot 1) (.slot 3)),(.ix (.slot 1) (.slot 2))])) [St s3 fl,.dat (~~~t),.dat (.int pn),.dat (.int qn),.dat o,.own (t.map .int),.no]=some (.nx,[St s3 fl,.dat (~~~t),.dat (.int pn),.dat (.int qn),.dat o,.own ex,.no]):=by
  rw[<- hv]
  simp! [U,ap,aq,l1,l2,ak 2 (by decide)]

 generalize hA:iG (t.map D.int) none (some (pn:Int))=A
 generalize hB:iG (t.map D.int) (some ((pn:Int)+1)) none=B
 generalize hC:iG (t.map D.int) (some (pn:Int)) none=C
 have pA:A.length<=6/\∀x∈A,Pl x:=by
  rw[<- hA]
  exact⟨aaI (qh _ _ _) (by lia),λx hx=>.ints (qi hx)⟩
 have pB:B.length<=6/\∀x∈B,Pl x:=by
  rw[<- hB]
  exact⟨aaI (qh _ _ _) (by lia),λx hx=>.ints (qi hx)⟩
 have pC:C.length<=6/\∀x∈C,Pl x:=by
  rw[<- hC]
  exact⟨aaI (qh _ _ _) (by lia),λx hx=>.ints (qi hx)⟩
 have cat:∀{a b:List D}{x y:Nat},(a.length<=x/\∀z∈a,Pl z)->(b.length<=y/\∀z∈b,Pl z)->((a++b).length<=x+y/\∀z∈a++b,Pl z):=λha hb=>⟨by rw[aaw];lia,λz hz=>(abH.mp hz).elim (ha.2 z) (hb.2 z)⟩
 have pO:([o]:List D).length<=1/\∀x∈[o],Pl x:=⟨aal _,λx hx=>by cases aaC.mp hx;exact hop⟩
 have pAO:=cat pA pO
 have Uc:=cat pAO pB
 have Ud:=cat pAO pC
 have pAB:=cat pA pB
 have pCA:=cat pC pA
 have e5:aF (rn (n+59)) [0] (k+1) (.set 6 (.lst [(.bin .Add (.bin .Add (.slice (.slot 1) none (some (.slot 2))) (.tup [(.slot 4)])) (.slice (.slot 1) (some (.bin .Add (.slot 2) (.val (.int 1)))) none)),(.bin .Add (.slice (.slot 1) none (some (.slot 2))) (.slice (.slot 1) (some (.bin .Add (.slot 2) (.val (.int 1)))) none)),(.bin .Add (.bin .Add (.slice (.slot 1) none (some (.slot 2))) (.tup [(.slot 4)])) (.slice (.slot 1) (some (.slot 2)) none)),(.blt .list [(.slot 1)]),(.val .non)])) [St s3 fl,.dat (~~~t),.dat (.int pn),.dat (.int qn),.dat o,.own ex,.no]=some (.nx,[St s3 fl,.dat (~~~t),.dat (.int pn),.dat (.int qn),.dat o,.own ex,.own [.tup (A++[o]++B),.tup (A++B),.tup (A++[o]++C),.lst (t.map .int),.non]]):=by
  simp! [U,vC,hA,hB,hC,kK A [o] (by have:=pAO.1;rw[aaw]at this;lia),kK (A++[o]) B (by have:=Uc.1;rw[aaw]at this;lia),kK (A++[o]) C (by have:=Ud.1;rw[aaw]at this;lia),kK A B (by have:=pAB.1;rw[aaw]at this;lia),ak 1 (by decide),ak 5 (by decide)]
 generalize hZ:[D.tup (A++[o]++B),.tup (A++B),.tup (A++[o]++C),.lst (t.map .int),.non]=Z at e5
 have zl:Z.length=5:=by rw[<- hZ];rfl
 obtain⟨r',s4,w1,w2,q4⟩:=bX U (n:=n+37) (k:=k) (g:=[St s3 fl,.dat (~~~t),.dat (.int pn),.dat (.int qn),.dat o,.own ex,.own Z]) (i:=0) (s:=s3) (fl:=fl) (m:=13) rfl (by decide)
 have q4':aK (rn (n+57)) bC k [.var 0,.dat (.int 13)] [St s3 fl,.dat (~~~t),.dat (.int pn),.dat (.int qn),.dat o,.own ex,.own Z]=some (.dat (.int r'),[St s4 fl,.dat (~~~t),.dat (.int pn),.dat (.int qn),.dat o,.own ex,.own Z]):=q4
 generalize hY:[D.tup ex,.tup (t.map D.int).reverse,.tup (C++A),.emp,.int 0,.tup [~~~t],~~~t,.tup []]=Y
 have yl:Y.length=8:=by rw[<- hY];rfl
 obtain⟨d,hd,ed⟩:=nY (l:=Z++Y) (r:=r') ⟨w1,by rw[aaw,zl,yl];exact w2⟩
 have e6:aF (rn (n+59)) [0] (k+1) (.ret (.ix (.bin .Add (.slot 6) (.lst [(.blt .tuple [(.slot 5)]),(.rev (.slot 1)),(.bin .Add (.slice (.slot 1) (some (.slot 2)) none) (.slice (.slot 1) none (some (.slot 2)))),.emp,(.val (.int 0)),(.tup [(.slot 1)]),(.slot 1),(.tup [])])) (.call ti [(.slot 0),(.val (.int 13))]))) [St s3 fl,.dat (~~~t),.dat (.int pn),.dat (.int qn),.dat o,.own ex,.own Z]=some (.rt (.dat d),[St s4 fl,.dat (~~~t),.dat (.int pn),.dat (.int qn),.dat o,.own ex,.own Z]):=by
  simp! [U,vC,hA,hC,kK C A (by have:=pCA.1;rw[aaw]at this;lia),ak 1 (by decide),ak 8 (by decide),ak 0 (by decide),hT,q4',hY,ak Y.length (by lia),nZ Z Y (by lia),ed]
 have hf:nF d:=by
  have pT:(t.map D.int).length<=20/\∀x∈t.map D.int,Pl x:=⟨by lia,λx hx=>.ints hx⟩
  rw[<- hZ,<- hY]at hd
  simp only[abH,aaj,aaO,abO]at hd
  rcases hd with (rfl |rfl |rfl |rfl |rfl) | (rfl |rfl |rfl |rfl |rfl |rfl |rfl |rfl)
  .
   exact⟨aaI Uc.1 (by decide),Uc.2⟩
  .
   exact⟨aaI pAB.1 (by decide),pAB.2⟩
  .
   exact⟨aaI Ud.1 (by decide),Ud.2⟩
  .
   trivial
  .
   trivial
  .
   exact⟨aaI hex.1 (by decide),hex.2⟩
  .
   exact⟨by rw[ab4];exact pT.1,λx hx=>pT.2 x (List.mem_reverse.mp hx)⟩
  .
   exact⟨aaI pCA.1 (by decide),pCA.2⟩
  .
   trivial
  .
   trivial
  .
   exact⟨by simp,λx hx=>by cases aaC.mp hx;exact Pl.tup⟩
  .
   exact pT
  .
   exact⟨by decide,λx hx=>by cases hx⟩
 refine⟨d,s4,hf,?_⟩
 have hp:cT (mY ti).n [St s fl,.dat (~~~t)]=[St s fl,.dat (~~~t),.no,.no,.no,.no,.no]:=rfl
 have body:(rn (n+60)).b [0] (k+1) (mY ti).body [St s fl,.dat (~~~t),.no,.no,.no,.no,.no]=some (.rt (.dat d),[St s4 fl,.dat (~~~t),.dat (.int pn),.dat (.int qn),.dat o,.own ex,.own Z]):=by
  unfold mY
  rw[U.b,aC e1,aC e2,aC e3,aC e4,aC e5]
  unfold fH
  rw[e6]
 unfold aK
 simp only[vars,bQ,hi,List.map_cons,List.map_nil]
 rw[aav ⟨rfl,by simp⟩,hp,body]
 rfl
end
noncomputable def jO(wi:Nat):Fx:=⟨2,2,[(.ite (.or [(.not (.qH (.slot 1) "tuple")),(.cmp .NotEq (.blt .len [(.slot 1)]) (.val (.int 2)))]) [(.ret (.val (.bl false)))] []),(.ret (.and [(.blt .all [(.comp 2 2 (.nm 3) (.slot 1) none (.call wi [(.slot 3),(.val (.int 0)),(.bin .Sub (.slot 0) (.val (.int 1)))]))]),(.cmp .Lt (.ix (.slot 1) (.val (.int 0))) (.ix (.slot 1) (.val (.int 1))))]))]⟩
noncomputable def yF:Fx:=⟨1,1,[(.ret (.blt .all [(.comp 1 2 (.nm 2) (.jd (.val (.int 1)) (.blt .len [(.slot 0)])) none (.cmp .Lt (.ix (.slot 0) (.bin .Sub (.slot 2) (.val (.int 1)))) (.ix (.slot 0) (.slot 2))))]))]⟩
noncomputable def fh(wi it ri:Nat):Fx:=⟨1,3,[(.ite (.or [(.not (.qH (.slot 0) "tuple")),(.cmp .NotEq (.blt .len [(.slot 0)]) (.val (.int 2)))]) [(.ret (.val (.bl false)))] []),(.tgt (.tp [1,2]) (.slot 0)),(.ite (.or [(.not (.call wi [(.slot 1),(.val (.int 1)),(.val (.int 6))])),(.not (.qH (.slot 2) "tuple"))]) [(.ret (.val (.bl false)))] []),(.ret (.and [(.blt .all [(.comp 3 2 (.nm 4) (.slot 2) none (.call it [(.slot 1),(.slot 4)]))]),(.call ri [(.slot 2)])]))]⟩
noncomputable def bF(iw ci:Nat):Fx:=⟨1,1,[(.ite (.not (.call iw [(.slot 0)])) [(.raise ci (.val (.str (PySem.Str.ofString "no web"))))] [])]⟩
noncomputable def W(m:Nat)(ao:List (List Int)):D:=.tup [.int m,.tup (ao.map λx=>~~~x)]
structure Wb(m:Nat)(ao:List (List Int)):Prop where
 tie:∀x∈ao,∃a b:Int,x=[a,b]/\0<=a/\a<b/\b<m
 ris:ao.Pairwise λx y=>HT.lexLt x y=true
 len:ao.length<=15
theorem CG(l:List (List Int)):fD (l.map λx=>~~~x)=true:=by
 induction l with
 |nil=>rfl
 |cons x l ih=>simp[fD,fO,eG,ih]
theorem CJ(l:List (List Int)):deps (l.map λx=>~~~x)<=1:=by
 induction l with
 |nil=>simp[deps]
 |cons x l ih=>simp[deps,dep,gi];lia
section
variable{bor:List Nat}{k n:Nat}{g g1:G}{rn:Nat->Rn}{fns:List Fx}{wh wi it ri iw ci:Nat}(U:ud fns rn)
include U
variable(hW:fns[wh]?=some bT)(hI:fns[wi]?=some (bA wh))
include hW hI
theorem Ii(m:Nat)(a b:Int)(h:0<=a/\a<b/\b<m):cN (rn (n+40)) (k+3) (jO wi) [.int m,~~~[a,b]]=some (.dat (.bl true)):=by
 have w:=λn k=>kG (rn:=rn (n+24)) (bor:=[]) (k:=k+2) (g:=[.dat (.int m),.dat (~~~[a,b])]) (g1:=[.dat (.int m),.dat (~~~[a,b])]) (kk:=2) (nn:=2) (j:=3) (it:=.slot 1) (e:=.call wi [(.slot 3),(.val (.int 0)),(.bin .Sub (.slot 0) (.val (.int 1)))]) [a,b] .int (λ_=>.bl true) (by simp! [U,gA]) rfl (by simp) (by simp) (by simp) (ak _ (by simp)) λx hx G' hG=>by
  have h0:G'[0]?=some (.dat (.int m)):=hG.1 0 (by simp)
  have hx':(0:Int)<=x/\x<=m - 1:=by
   simp only[aaj,aaO,abO]at hx
   lia
  simp! [U,hG.2,h0,hI,cE (fx:=bA wh) rfl,gu U hW,wL,hx']
 have e1:[a,b].map (λ_=>D.bl true)=([true,true]).map .bl:=rfl
 have i0:L2.g7 ([a,b].map D.int) 0=some (.int a):=rfl
 have i1:L2.g7 ([a,b].map D.int) 1=some (.int b):=rfl
 unfold cN jO
 simp! [U,w,e1,i0,i1,h]
omit hW hI in
theorem Ue(m:Nat)(ao:List (List Int))(h:Wb m ao):cN (rn (n+40)) k yF [.tup (ao.map λx=>~~~x)]=some (.dat (.bl true)):=by
 have hl:=h.len
 have w:=λn k=>kG (rn:=rn (n+16)) (bor:=[]) (k:=k) (g:=[.dat (.tup (ao.map λx=>~~~x))]) (g1:=[.dat (.tup (ao.map λx=>~~~x))]) (kk:=2) (nn:=1) (j:=2) (it:=.jd (.val (.int 1)) (.blt .len [(.slot 0)])) (e:=.cmp .Lt (.ix (.slot 0) (.bin .Sub (.slot 2) (.val (.int 1)))) (.ix (.slot 0) (.slot 2))) (List.range (ao.length - 1)) (λ(k:Nat)=>.int (1+k:Int)) (λ_=>.bl true) (by
   have e:((ao.length:Int) - 1).toNat=ao.length - 1:=by lia
   simp! [U,gA,aP 1 (by decide),aP (ao.length:Int) (by lia),e,cS]) rfl (by simp) (by simp) (by simp) (ak _ (by simp;lia)) λj hj G' hG=>by
  have h0:G'[0]?=some (.dat (.tup (ao.map λx=>~~~x))):=hG.1 0 (by simp)
  have hj':=abo.mp hj
  have j1:L2.g7 (ao.map λx=>~~~x) (1+(j:Int) - 1)=some (~~~(ao[j]'(by lia))):=by
   rw[show (1+(j:Int) - 1)=((j:Nat):Int)by lia,nW _ _ (by simp;lia)];simp
  have j2:L2.g7 (ao.map λx=>~~~x) (1+(j:Int))=some (~~~(ao[j+1]'(by lia))):=by
   rw[show (1+(j:Int))=((j+1:Nat):Int)by lia,nW _ _ (by simp;lia)];simp
  have uz:HT.lexLt (ao[j]'(by lia)) (ao[j+1]'(by lia))=true:=List.pairwise_iff_getElem.mp h.ris j (j+1) (by lia) (by lia) (by lia)
  have hc:d8 .Lt (~~~(ao[j]'(by lia))) (~~~(ao[j+1]'(by lia)))=some true:=by
   simp only[d8,ltF,ints_map,uz]
  simp! [U,hG.2,h0,j1,j2,hc]
 have e1:(List.range (ao.length - 1)).map (λ_=>D.bl true)=((List.range (ao.length - 1)).map λ_=>true).map .bl:=by rw[List.map_map];rfl
 have e2:((List.range (ao.length - 1)).map λ_=>true).all id=true:=by simp
 unfold cN yF
 simp! [U,w,e1,e2]
variable(zT:fns[it]?=some (jO wi))(hR:fns[ri]?=some yF)
include zT hR
theorem wu(m:Nat)(ao:List (List Int))(hm:1<=m/\m<=6)(h:Wb m ao):cN (rn (n+60)) (k+5) (fh wi it ri) [W m ao]=some (.dat (.bl true)):=by
 have hl:=h.len
 have w:=λn k=>kG (rn:=rn (n+50)) (bor:=[]) (k:=k+4) (g:=[.dat (W m ao),.dat (.int m),.dat (.tup (ao.map λx=>~~~x))]) (g1:=[.dat (W m ao),.dat (.int m),.dat (.tup (ao.map λx=>~~~x))]) (kk:=2) (nn:=3) (j:=4) (it:=.slot 2) (e:=.call it [(.slot 1),(.slot 4)]) ao (λx=>~~~x) (λ_=>.bl true) (by simp! [U,gA]) rfl (by simp) (by simp) (by simp) (ak _ (by lia)) λx hx G' hG=>by
  have h1:G'[1]?=some (.dat (.int m)):=hG.1 1 (by simp)
  obtain⟨a,b,rfl,hab⟩:=h.tie x hx
  simp! [U,hG.2,h1,zT,aR (fx:=jO wi) rfl,Ii U hW hI m a b hab]
 have e1:ao.map (λ_=>D.bl true)=(ao.map λ_=>true).map .bl:=by rw[List.map_map];rfl
 have e2:(ao.map λ_=>true).all id=true:=by simp
 have q:=λn k=>Ue U (n:=n) (k:=k) m ao h
 have ty:eW (j8 (W m ao)) "tuple" = true:=rfl
 have bl:pJ .len [W m ao]=some (.dat (.int 2)):=rfl
 have st:∀s1 s2,Tg.set (.tp [1,2]) (W m ao) [.dat (W m ao),s1,s2]=some [.dat (W m ao),.dat (.int m),.dat (.tup (ao.map λx=>~~~x))]:=λ_ _=>rfl
 unfold cN fh
 simp! [U,ty,bl,Tg.ix,st,hI,cE (fx:=bA wh) rfl,gu U hW,wL,(show (1:Int)<=m/\(m:Int)<=6 by lia),w,e1,e2,hR,bI (fx:=yF) rfl,q]
variable(Jk:fns[iw]?=some (fh wi it ri))
include Jk
theorem qj(m:Nat)(ao:List (List Int))(hm:1<=m/\m<=6)(h:Wb m ao):cN (rn (n+70)) (k+6) (bF iw ci) [W m ao]=some (.dat .non):=by
 unfold cN bF
 simp! [U,Jk,bI (fx:=fh wi it ri) rfl,wu U hW hI zT hR m ao hm h]
omit U hW hI zT hR Jk in
theorem mZ{rn:Rn}{bor:List Nat}{k:Nat}:∀(l:List Sm) (g:G),(∀st∈l,∀g,gQ rn bor k st g=none)->eX rn bor k l g=none
 | [],_,_=>rfl
 |st::l,g,h=>by
  unfold eX
  rw[h st aah]
  dsimp only
  split
  .
   exact mZ l _ λs hs=>h s (aaf _ hs)
  .
   rfl
omit hW hI zT hR Jk in
theorem Ug(d:D):fM (rn (n+60)) k (fh wi it ri) [d]=none:=by
 have rf:∀g,(rn (n+59)).xb [] k [(.ret (.val (.bl false)))] g=none:=λg=>by simp! [U,U.e]
 have r0:∀g,(rn (n+59)).xb [] k [] g=none:=λg=>by simp! [U,U.e]
 unfold fM fh
 rw[U.xb,mZ]
 intro st hs g
 simp only[aaj,aaO,abO]at hs
 rcases hs with rfl |rfl |rfl |rfl
 .
  simp only[gQ,U.xt,lK,rf,r0]
  split <;> first |rfl | (split <;> rfl)
 .
  simp! [U,U.e]
 .
  simp only[gQ,U.xt,lK,rf,r0]
  split <;> first |rfl | (split <;> rfl)
 .
  simp! [U,U.e]
theorem Ij(m:Nat)(ao:List (List Int))(hm:1<=m/\m<=6)(h:Wb m ao):fM (rn (n+70)) (k+6) (bF iw ci) [W m ao]=none:=by
 unfold fM bF
 simp! [U,Jk,uf (fx:=fh wi it ri) rfl,Ug U,bI (fx:=fh wi it ri) rfl,wu U hW hI zT hR m ao hm h]
end
noncomputable def tm(t:List Int)(x:List Int):List Int:=if gt t (gt x 0)<gt t (gt x 1)then [gt t (gt x 0),gt t (gt x 1)]else [gt t (gt x 1),gt t (gt x 0)]
noncomputable def tw(t:List Int)(ao:List (List Int)):List (List Int):=dg iI (ao.map (tm t))
theorem n5(a b:Int):gt [a,b] 0=a/\gt [a,b] 1=b:=⟨rfl,rfl⟩
theorem kM(t:List Int)(a b:Int):tm t [a,b]=if gt t a<gt t b then [gt t a,gt t b]else [gt t b,gt t a]:=rfl
def Pr(m:Nat)(x:List Int):Prop:=∃a b:Int,x=[a,b]/\0<=a/\a<b/\b<m
theorem X6{m:Nat}{t:List Int}(h:Tn m t){x:List Int}(hx:Pr m x):Pr m (tm t x):=by
 obtain⟨a,b,rfl,h1,h2,h3⟩:=hx
 have ha:=h.jN (i:=a) (by lia)
 have hb:=h.jN (i:=b) (by lia)
 have ji:gt t a≠gt t b:=λe=>by have:=h.inj (i:=a) (j:=b) (by lia) (by lia) e;lia
 rw[kM]
 split
 .
  exact⟨_,_,rfl,by lia,by lia,by lia⟩
 .
  exact⟨_,_,rfl,by lia,by lia,by lia⟩
theorem Uh{m:Nat}{t:List Int}(h:Tn m t){x y:List Int}(hx:Pr m x)(hy:Pr m y)(e:tm t x=tm t y):x=y:=by
 obtain⟨a,b,rfl,h1,h2,h3⟩:=hx
 obtain⟨c,d,rfl,h4,h5,h6⟩:=hy
 rw[kM,kM]at e
 have i1:∀i j:Int,(0<=i/\i<m)->(0<=j/\j<m)->gt t i=gt t j->i=j:=λi j hi hj e=>h.inj hi hj e
 split at e <;> split at e <;> simp only[List.cons.injEq,and_true]at e
 .
  have:=i1 a c (by lia) (by lia) e.1
  have:=i1 b d (by lia) (by lia) e.2
  subst_vars;rfl
 .
  have:=i1 a d (by lia) (by lia) e.1
  have:=i1 b c (by lia) (by lia) e.2
  lia
 .
  have:=i1 b c (by lia) (by lia) e.1
  have:=i1 a d (by lia) (by lia) e.2
  lia
 .
  have:=i1 b d (by lia) (by lia) e.1
  have:=i1 a c (by lia) (by lia) e.2
  subst_vars;rfl
theorem jx{l:List (List Int)}(h:l.Nodup):(dg iI l).Pairwise λx y=>HT.lexLt x y=true:=by
 have h1:=gP (O:=iI) l
 have h2:(dg iI l).Nodup:=(eS l).nodup_iff.mpr h
 rw[abY]at h2
 refine (h1.and h2).imp λ{x y} ⟨q1,q2⟩=>?_
 cases e:HT.lexLt x y with
 |true=>rfl
 |false=>exact absurd (lD x y e q1) q2
theorem Wb.nodup{m:Nat}{ao:List (List Int)}(h:Wb m ao):ao.Nodup:=by
 rw[abY]
 exact h.ris.imp λ{x y} q e=>by rw[e,lC]at q;cases q
theorem Wb.turn{m:Nat}{ao:List (List Int)}{t:List Int}(h:Wb m ao)(ht:Tn m t):Wb m (tw t ao):=by
 have hp:=eS (O:=iI) (ao.map (tm t))
 refine⟨λx hx=>?_,jx (rT h.nodup λx hx y hy e=>Uh ht (h.tie x hx) (h.tie y hy) e),?_⟩
 .
  obtain⟨y,hy,rfl⟩:=aaD.mp (hp.mem_iff.mp hx)
  exact X6 ht (h.tie y hy)
 .
  unfold tw
  rw[hp.length_eq,aaA]
  exact h.len
noncomputable def mh:Fx:=⟨2,2,[(.ret (.ite (.cmp .Lt (.slot 0) (.slot 1)) (.tup [(.slot 0),(.slot 1)]) (.tup [(.slot 1),(.slot 0)])))]⟩
noncomputable def CK(to:Nat):Fx:=⟨2,4,[(.tgt (.tp [2,3]) (.slot 0)),(.ret (.tup [(.slot 2),(.blt .tuple [(.blt .sorted [(.comp 4 3 (.tp [5,6]) (.slot 3) none (.call to [(.ix (.slot 1) (.slot 5)),(.ix (.slot 1) (.slot 6))]))])])]))]⟩
noncomputable def cX(mb mt le:Nat):Fx:=⟨2,2,[(.expr (.call mb [(.slot 0)])),(.expr (.call mt [(.ix (.slot 0) (.val (.int 0))),(.slot 1)])),(.ret (.call le [(.slot 0),(.slot 1)]))]⟩
noncomputable def bK(mt:Nat):Fx:=⟨3,3,[(.expr (.call mt [(.slot 0),(.slot 1)])),(.expr (.call mt [(.slot 0),(.slot 2)])),(.ret (.blt .tuple [(.comp 3 2 (.nm 4) (.slot 1) none (.ix (.slot 2) (.slot 4)))]))]⟩
noncomputable def iP(mt:Nat):Fx:=⟨2,2,[(.expr (.call mt [(.slot 0),(.slot 1)])),(.ret (.blt .tuple [(.comp 2 2 (.nm 3) (.dN (.slot 0)) none (.meth .index (.slot 1) (.slot 3)))]))]⟩
noncomputable def inv(m:Nat)(t:List Int):List Int:=(List.range m).map λ(k:Nat)=>(t.idxOf (k:Int):Int)
theorem wz(t:List Int)(x:Int)(h:x∈t):Xj .index (~~~t) (.int x)=some (.int (t.idxOf x:Nat)):=by
 have e:∀t:List Int,x∈t->xN (.int x) (t.map .int)=some (t.idxOf x):=λt=>by
  induction t with
  |nil=>intro h;cases h
  |cons a t ih=>
   intro h
   rw[List.map_cons]
   unfold xN
   by_cases ha:a=x
   .
    subst ha
    rw[aav (by simp[bL])]
    simp[List.idxOf_cons]
   .
    rw[aau (by simp[bL,ha])]
    have hx:x∈t:=(aaj.mp h).resolve_left λz=>ha z.symm
    rw[ih hx]
    have hb:(a==x)=false:=by simpa using ha
    simp[List.idxOf_cons,hb]
 have ho:vA (.int x) (t.map .int)=true:=by simp[vA,fO,eG,gi]
 unfold Xj
 simp only[cR,ho,abM,e t h]
section
variable{k n:Nat}{g g1:G}{rn:Nat->Rn}{fns:List Fx}{wh wi it ri iw ci cj cw mw tu mt mb le to:Nat}(U:ud fns rn)
include U
theorem Ik(a b:Int):cN (rn (n+8)) k mh [.int a,.int b]=some (.dat (~~~(if a<b then [a,b]else [b,a]))):=by
 unfold cN mh
 by_cases h:a<b
 .
  simp! [U,h,ak 2 (by decide)]
  simp
 .
  simp! [U,h,ak 2 (by decide)]
  simp
variable(Ze:fns[to]?=some mh)
include Ze in
theorem Ui(m:Nat)(ao:List (List Int))(t:List Int)(h:Wb m ao)(ht:Tn m t):cN (rn (n+40)) (k+2) (CK to) [W m ao,~~~t]=some (.dat (W m (tw t ao))):=by
 have hl:=h.len
 have htl:=ht.length
 have st:∀s1 s2,Tg.set (.tp [2,3]) (W m ao) [.dat (W m ao),.dat (~~~t),s1,s2]=some [.dat (W m ao),.dat (~~~t),.dat (.int m),.dat (.tup (ao.map λx=>~~~x))]:=λ_ _=>rfl
 have w:=λn k=>yy (rn:=rn (n+16)) (bor:=[]) (k:=k+1) (g:=[.dat (W m ao),.dat (~~~t),.dat (.int m),.dat (.tup (ao.map λx=>~~~x))]) (g1:=[.dat (W m ao),.dat (~~~t),.dat (.int m),.dat (.tup (ao.map λx=>~~~x))]) (kk:=3) (nn:=4) (j1:=5) (j2:=6) (it:=.slot 3) (e:=.call to [(.ix (.slot 1) (.slot 5)),(.ix (.slot 1) (.slot 6))]) ao (λx=>.int (gt x 0)) (λx=>.int (gt x 1)) (λx=>~~~(tm t x)) (by
   have e:ao.map (λx=>~~~x)=ao.map λx=>.tup [.int (gt x 0),.int (gt x 1)]:=abt λx hx=>by
    obtain⟨a,b,rfl,_⟩:=h.tie x hx
    rfl
   simp! [U,gA,<- e]) rfl (by simp) (by simp) (by simp) (by simp) (by simp) (by simp) (by simp) (ak _ (by lia)) λx hx G' hG=>by
  have h1:G'[1]?=some (.dat (~~~t)):=hG.1 1 (by simp)
  obtain⟨a,b,rfl,h2,h3,h4⟩:=h.tie x hx
  have h5:=hG.2.1
  have h6:=hG.2.2
  rw[(n5 a b).1]at h5
  rw[(n5 a b).2]at h6
  simp! [U,h5,h6,h1,cJ (t:=t) (i:=a) (by lia),cJ (t:=t) (i:=b) (by lia),Ze,aR (fx:=mh) rfl,Ik U,kM]
 have e1:ao.map (λx=>~~~(tm t x))=(ao.map (tm t)).map λx=>~~~x:=by rw[List.map_map];rfl
 have e2:=fc (ao.map (tm t)) (λx hx=>by obtain⟨y,_,rfl⟩:=aaD.mp hx;unfold tm;split <;> simp) (by simp;lia)
 unfold cN CK
 simp! [U,Tg.ix,st,w,e1,e2,ak 2 (by decide)]
 rfl
variable(hW:fns[wh]?=some bT)(hI:fns[wi]?=some (bA wh))(hM:fns[mw]?=some (cM wi ci))(hT:fns[tu]?=some (bq mw wh))(Jl:fns[mt]?=some (aJ tu cj))
include hW hI hM hT
theorem dF(m:Nat)(t:List Int)(hm:1<=m/\m<=6)(h:Tn m t):cN (rn (n+48)) (k+5) (aJ tu cj) [.int m,~~~t]=some (.dat .non)/\fM (rn (n+48)) (k+5) (aJ tu cj) [.int m,~~~t]=none:=by
 have hl:=h.length
 have hf:nF (~~~t):=⟨by rw[aaA];lia,λx hx=>Pl.ints hx⟩
 have q:=λn k=>(gw U hW hI hM (n:=n) (k:=k) m hm (~~~t) hf).1
 have q2:=λn k=>(gw U hW hI hM (n:=n) (k:=k) m hm (~~~t) hf).2
 have e:kJ m (~~~t)=true:=by rw[lZ,aaz];exact h
 rw[e]at q
 constructor
 .
  unfold cN aJ
  simp! [U,hT,aR (fx:=bq mw wh) rfl,q]
 .
  unfold fM aJ
  simp! [U,hT,aR (fx:=bq mw wh) rfl,bJ (fx:=bq mw wh) rfl,q,q2]
include Jl
theorem CN(m:Nat)(a b:List Int)(hm:1<=m/\m<=6)(ha:Tn m a)(hb:Tn m b):cN (rn (n+60)) (k+6) (bK mt) [.int m,~~~a,~~~b]=some (.dat (~~~(a.map (gt b)))):=by
 have w:=λn k=>kG (rn:=rn (n+10)) (bor:=[]) (k:=k) (g:=[.dat (.int m),.dat (~~~a),.dat (~~~b)]) (g1:=[.dat (.int m),.dat (~~~a),.dat (~~~b)]) (kk:=2) (nn:=3) (j:=4) (it:=.slot 1) (e:=.ix (.slot 2) (.slot 4)) a .int (λi=>.int (gt b i)) (by simp! [U,gA]) rfl (by simp) (by simp) (by simp) (ak _ (by rw[ha.length];lia)) λi hi G' hG=>by
  have h2:G'[2]?=some (.dat (~~~b)):=hG.1 2 (by simp)
  have:=ha.mem.mp hi
  have hbl:=hb.length
  simp! [U,hG.2,h2,cJ (t:=b) (i:=i) (by lia)]
 have q1:=λn k=>(dF U hW hI hM hT (cj:=cj) (n:=n) (k:=k) m a hm ha).1
 have q2:=λn k=>(dF U hW hI hM hT (cj:=cj) (n:=n) (k:=k) m b hm hb).1
 unfold cN bK
 simp! [U,Jl,aR (fx:=aJ tu cj) rfl,q1,q2,w]
 rw[List.map_map]
 rfl
theorem Nb(m:Nat)(t:List Int)(hm:1<=m/\m<=6)(h:Tn m t):cN (rn (n+60)) (k+6) (iP mt) [.int m,~~~t]=some (.dat (~~~(inv m t))):=by
 have hr:cS 0 m=(nums m).map .int:=gj m
 have w:=λn k=>kG (rn:=rn (n+10)) (bor:=[]) (k:=k) (g:=[.dat (.int m),.dat (~~~t)]) (g1:=[.dat (.int m),.dat (~~~t)]) (kk:=2) (nn:=2) (j:=3) (it:=.dN (.slot 0)) (e:=.meth .index (.slot 1) (.slot 3)) (nums m) .int (λx=>.int (t.idxOf x:Nat)) (by simp! [U,gA,aP m (by lia),hr]) rfl (by simp) (by simp) (by simp) (ak _ (by rw[iO];lia)) λx hx G' hG=>by
  have h1:G'[1]?=some (.dat (~~~t)):=hG.1 1 (by simp)
  simp! [U,hG.2,h1,cR,wz t x (h.mem.mpr (dO.mp hx))]
 have q1:=λn k=>(dF U hW hI hM hT (cj:=cj) (n:=n) (k:=k) m t hm h).1
 unfold cN iP
 simp! [U,Jl,aR (fx:=aJ tu cj) rfl,q1,w]
 unfold inv nums
 rw[List.map_map,List.map_map]
 rfl
theorem CP(b d e:D)(h:wL 1 6 b=false):fM (rn (n+60)) (k+6) (bK mt) [b,d,e]=some ci:=by
 have q:=λn k=>mW U hW hI hM hT (cj:=cj) (n:=n) (k:=k) b d h
 unfold fM bK
 simp! [U,Jl,bJ (fx:=aJ tu cj) rfl,q]
theorem Nc(b d:D)(h:wL 1 6 b=false):fM (rn (n+60)) (k+6) (iP mt) [b,d]=some ci:=by
 have q:=λn k=>mW U hW hI hM hT (cj:=cj) (n:=n) (k:=k) b d h
 unfold fM iP
 simp! [U,Jl,bJ (fx:=aJ tu cj) rfl,q]
theorem Uj(m:Nat)(hm:1<=m/\m<=6)(t:List Int)(ht:Tn m t)(d:D)(hd:nF d)(h:kJ m d=false):fM (rn (n+60)) (k+6) (bK mt) [.int m,d,~~~t]=some cj/\fM (rn (n+60)) (k+6) (bK mt) [.int m,~~~t,d]=some cj/\fM (rn (n+60)) (k+6) (iP mt) [.int m,d]=some cj:=by
 have q:=λn k=>mX U hW hI hM hT (cj:=cj) (n:=n) (k:=k) m hm d hd h
 have q1:=λn k=>(dF U hW hI hM hT (cj:=cj) (n:=n) (k:=k) m t hm ht).1
 have q2:=λn k=>(dF U hW hI hM hT (cj:=cj) (n:=n) (k:=k) m t hm ht).2
 refine⟨?_,?_,?_⟩
 .
  unfold fM bK
  simp! [U,Jl,bJ (fx:=aJ tu cj) rfl,q]
 .
  unfold fM bK
  simp! [U,Jl,bJ (fx:=aJ tu cj) rfl,aR (fx:=aJ tu cj) rfl,q,q1,q2]
 .
  unfold fM iP
  simp! [U,Jl,bJ (fx:=aJ tu cj) rfl,q]
variable(zT:fns[it]?=some (jO wi))(Zf:fns[ri]?=some yF)(Jk:fns[iw]?=some (fh wi it ri))(hMW:fns[mb]?=some (bF iw cw))(hLe:fns[le]?=some (CK to))
include zT Zf Jk hMW
include hLe Ze in
theorem CQ(m:Nat)(ao:List (List Int))(t:List Int)(hm:1<=m/\m<=6)(h:Wb m ao)(ht:Tn m t):cN (rn (n+90)) (k+8) (cX mb mt le) [W m ao,~~~t]=some (.dat (W m (tw t ao))):=by
 have i0:Du (W m ao) (.int 0)=some (.int m):=rfl
 have q1:=λn k=>(dF U hW hI hM hT (cj:=cj) (n:=n) (k:=k) m t hm ht).1
 have q3:=λn k=>qj (ci:=cw) U hW hI zT Zf Jk (n:=n) (k:=k) m ao hm h
 have q4:=λn k=>Ui U Ze (n:=n) (k:=k) m ao t h ht
 unfold cN cX
 simp! [U,hMW,bI (fx:=bF iw cw) rfl,q3,i0,Jl,aR (fx:=aJ tu cj) rfl,q1,hLe,aR (fx:=CK to) rfl,q4]
theorem Il(m:Nat)(ao:List (List Int))(hm:1<=m/\m<=6)(h:Wb m ao)(d:D)(hd:nF d)(hn:kJ m d=false):fM (rn (n+90)) (k+8) (cX mb mt le) [W m ao,d]=some cj:=by
 have i0:Du (W m ao) (.int 0)=some (.int m):=rfl
 have q:=λn k=>mX U hW hI hM hT (cj:=cj) (n:=n) (k:=k) m hm d hd hn
 have q3:=λn k=>qj (ci:=cw) U hW hI zT Zf Jk (n:=n) (k:=k) m ao hm h
 have q4:=λn k=>Ij (ci:=cw) U hW hI zT Zf Jk (n:=n) (k:=k) m ao hm h
 unfold fM cX
 simp! [U,hMW,bI (fx:=bF iw cw) rfl,uf (fx:=bF iw cw) rfl,q3,q4,i0,Jl,bJ (fx:=aJ tu cj) rfl,q]
end
noncomputable def fj:Fx:=⟨2,2,[(.ret (.tup [(.ix (.slot 0) (.val (.int 0))),(.blt .tuple [(.blt .sorted [(.comp 2 3 (.tp [3,4]) (.ix (.slot 0) (.val (.int 1))) none (.blt .tuple [(.blt .sorted [(.lst [(.ix (.slot 1) (.slot 3)),(.ix (.slot 1) (.slot 4))])])]))])])]))]⟩
noncomputable def bY(ti:Nat):Fx:=⟨1,2,[(.set 1 (.lst [(.val .non),(.val (.int 0)),(.tup []),(.tup [(.val (.int 7)),(.tup [])]),(.tup [(.val (.int 0)),(.tup [])]),(.tup [(.neg (.val (.int 1))),(.tup [])]),(.tup [(.val (.bl true)),(.tup [])]),(.tup [(.val (.int 2)),(.lst [])]),(.lst [(.val (.int 2)),(.tup [])]),(.tup [(.val (.int 2)),(.tup [(.tup [(.val (.int 1)),(.val (.int 0))])])]),(.tup [(.val (.int 2)),(.tup [(.tup [(.val (.int 0)),(.val (.int 0))])])]),.emp])),(.set 1 (.bin .Add (.slot 1) (.lst [(.tup [(.val (.int 2)),(.tup [(.tup [(.val (.int 0)),(.val (.int 1))]),(.tup [(.val (.int 0)),(.val (.int 1))])])]),(.tup [(.val (.int 3)),(.tup [(.tup [(.val (.int 0)),(.val (.int 2))]),(.tup [(.val (.int 0)),(.val (.int 1))])])]),(.tup [(.val (.int 2)),(.tup [(.tup [(.val (.int 0)),(.val (.int 2))])])]),(.tup [(.val (.int 2)),(.tup [(.tup [(.val (.int 0)),(.val (.bl true))])])]),(.tup [(.val (.int 2)),(.tup [(.tup [(.val (.int 0)),(.val (.int 1)),(.val (.int 1))])])])]))),(.set 1 (.bin .Add (.slot 1) (.lst [(.tup [(.val (.int 2)),(.tup [(.val (.int 0)),(.val (.int 1))])]),(.tup [(.val (.int 2)),(.val .non)]),(.tup [(.val (.int 2)),(.tup []),(.tup [])]),(.tup [(.val (.int 2))]),(.tup [(.val (.int 2)),(.tup [(.lst [(.val (.int 0)),(.val (.int 1))])])]),(.tup [(.val (.int 2)),(.tup [(.val .non)])]),(.tup [(.val (.str (PySem.Str.ofString "2"))),(.tup [])]),(.val (.str (PySem.Str.ofString "2:")))]))),(.ret (.ix (.slot 1) (.call ti [(.slot 0),(.val (.int 25))])))]⟩
theorem Uk(a b:Int):cA [a,b]=if a<b then [a,b]else [b,a]:=by
 show (if a<=b then [a,b]else [b,a])=_
 by_cases h:a<b
 .
  rw[aav (by lia),aav h]
 .
  by_cases e:a=b
  .
   subst e;rw[aav (by lia),aau h]
  .
   rw[aau (by lia),aau h]
noncomputable def yG:List D:=[.non,.int 0,.tup [],.tup [.int 7,.tup []],.tup [.int 0,.tup []],.tup [.int (-1),.tup []],.tup [.bl true,.tup []],.tup [.int 2,.lst []],.lst [.int 2,.tup []],.tup [.int 2,.tup [.tup [.int 1,.int 0]]],.tup [.int 2,.tup [.tup [.int 0,.int 0]]],.emp]
noncomputable def yH:List D:=[.tup [.int 2,.tup [.tup [.int 0,.int 1],.tup [.int 0,.int 1]]],.tup [.int 3,.tup [.tup [.int 0,.int 2],.tup [.int 0,.int 1]]],.tup [.int 2,.tup [.tup [.int 0,.int 2]]],.tup [.int 2,.tup [.tup [.int 0,.bl true]]],.tup [.int 2,.tup [.tup [.int 0,.int 1,.int 1]]]]
noncomputable def Ng:List D:=[.tup [.int 2,.tup [.int 0,.int 1]],.tup [.int 2,.non],.tup [.int 2,.tup [],.tup []],.tup [.int 2],.tup [.int 2,.tup [.lst [.int 0,.int 1]]],.tup [.int 2,.tup [.non]],.tup [.str (PySem.Str.ofString "2"),.tup []],.str (PySem.Str.ofString "2:")]
noncomputable def nG:List D:=yG++yH++Ng
section
variable{k n:Nat}{g g1:G}{rn:Nat->Rn}{fns:List Fx}{ti:Nat}(U:ud fns rn)
include U
theorem um(m:Nat)(ao:List (List Int))(t:List Int)(h:Wb m ao)(ht:Tn m t):cN (rn (n+20)) k fj [W m ao,~~~t]=some (.dat (W m (tw t ao))):=by
 have hl:=h.len
 have htl:=ht.length
 have i0:Du (W m ao) (.int 0)=some (.int m):=rfl
 have i1:Du (W m ao) (.int 1)=some (.tup (ao.map λx=>~~~x)):=rfl
 have w:=λn k=>yy (rn:=rn (n+12)) (bor:=[]) (k:=k) (g:=[.dat (W m ao),.dat (~~~t)]) (g1:=[.dat (W m ao),.dat (~~~t)]) (kk:=3) (nn:=2) (j1:=3) (j2:=4) (it:=.ix (.slot 0) (.val (.int 1))) (e:=.blt .tuple [(.blt .sorted [(.lst [(.ix (.slot 1) (.slot 3)),(.ix (.slot 1) (.slot 4))])])]) ao (λx=>.int (gt x 0)) (λx=>.int (gt x 1)) (λx=>~~~(tm t x)) (by
   have e:ao.map (λx=>~~~x)=ao.map λx=>.tup [.int (gt x 0),.int (gt x 1)]:=abt λx hx=>by
    obtain⟨a,b,rfl,_⟩:=h.tie x hx
    rfl
   simp! [U,gA,i1,<- e]) rfl (by simp) (by simp) (by simp) (by simp) (by simp) (by simp) (by simp) (ak _ (by lia)) λx hx G' hG=>by
  have h1:G'[1]?=some (.dat (~~~t)):=hG.1 1 (by simp)
  obtain⟨a,b,rfl,h2,h3,h4⟩:=h.tie x hx
  have h5:=hG.2.1
  have h6:=hG.2.2
  rw[(n5 a b).1]at h5
  rw[(n5 a b).2]at h6
  have so:pJ .sorted [.lst [.int (gt t a),.int (gt t b)]]=some (.new ((tm t [a,b]).map .int)):=by
   rw[kM,<- Uk]
   exact mU [gt t a,gt t b] (by simp)
  simp! [U,h5,h6,h1,cJ (t:=t) (i:=a) (by lia),cJ (t:=t) (i:=b) (by lia),so,ak 2 (by decide)]
 have e1:ao.map (λx=>~~~(tm t x))=(ao.map (tm t)).map λx=>~~~x:=by rw[List.map_map];rfl
 have e2:=fc (ao.map (tm t)) (λx hx=>by obtain⟨y,_,rfl⟩:=aaD.mp hx;unfold tm;split <;> simp) (by simp;lia)
 unfold cN fj
 simp! [U,i0,w,e1,e2,ak 2 (by decide)]
 rfl
variable(hT:fns[ti]?=some bC)
include hT
theorem CT{i:Nat}{s:Int}{fl:Bool}(hi:g[i]?=some (St s fl)):∃(d:D) (s':Int),d∈nG/\aK (rn (n+60)) (bY ti) (k+1) [.var i] g=some (.dat d,g.set i (St s' fl)):=by
 have l0:=ak 0 (by decide)
 have l1:=ak 1 (by decide)
 have l2:=ak 2 (by decide)
 have l3:=ak 3 (by decide)
 have e1:aF (rn (n+59)) [0] (k+1) (match (bY ti).body with |s::_=>s | []=>.stuck) [St s fl,.no]=some (.nx,[St s fl,.own yG]):=by
  unfold bY
  simp! [U,l0,l1,l2,l3,ak 12 (by decide)]
  rfl
 have e2:aF (rn (n+59)) [0] (k+1) (match (bY ti).body with |_::s::_=>s |_=>.stuck) [St s fl,.own yG]=some (.nx,[St s fl,.own (yG++yH)]):=by
  have o:=nZ yG yH (by decide)
  have hb:yH=[.tup [.int 2,.tup [.tup [.int 0,.int 1],.tup [.int 0,.int 1]]],.tup [.int 3,.tup [.tup [.int 0,.int 2],.tup [.int 0,.int 1]]],.tup [.int 2,.tup [.tup [.int 0,.int 2]]],.tup [.int 2,.tup [.tup [.int 0,.bl true]]],.tup [.int 2,.tup [.tup [.int 0,.int 1,.int 1]]]]:=rfl
  unfold bY
  simp! [U,l0,l1,l2,l3,ak yH.length (by decide),<- hb,o]
 have e3:aF (rn (n+59)) [0] (k+1) (match (bY ti).body with |_::_::s::_=>s |_=>.stuck) [St s fl,.own (yG++yH)]=some (.nx,[St s fl,.own nG]):=by
  have o:=nZ (yG++yH) Ng (by decide)
  have hb:Ng=[.tup [.int 2,.tup [.int 0,.int 1]],.tup [.int 2,.non],.tup [.int 2,.tup [],.tup []],.tup [.int 2],.tup [.int 2,.tup [.lst [.int 0,.int 1]]],.tup [.int 2,.tup [.non]],.tup [.str (PySem.Str.ofString "2"),.tup []],.str (PySem.Str.ofString "2:")]:=rfl
  unfold bY nG
  simp! [U,l0,l1,l2,l3,ak Ng.length (by decide),<- hb,o]
 obtain⟨r,s1,r1,r2,q⟩:=bX U (n:=n+37) (k:=k) (g:=[St s fl,.own nG]) (i:=0) (s:=s) (fl:=fl) (m:=25) rfl (by decide)
 have q':aK (rn (n+57)) bC k [.var 0,.dat (.int 25)] [St s fl,.own nG]=some (.dat (.int r),[St s1 fl,.own nG]):=q
 obtain⟨d,hd,ed⟩:=nY (l:=nG) (r:=r) ⟨r1,r2⟩
 refine⟨d,s1,hd,?_⟩
 have e4:aF (rn (n+59)) [0] (k+1) (.ret (.ix (.slot 1) (.call ti [(.slot 0),(.val (.int 25))]))) [St s fl,.own nG]=some (.rt (.dat d),[St s1 fl,.own nG]):=by
  simp! [U,hT,q',ed]
 have body:(rn (n+60)).b [0] (k+1) (bY ti).body [St s fl,.no]=some (.rt (.dat d),[St s1 fl,.own nG]):=by
  unfold bY at e1 e2 e3 ⊢
  rw[U.b,aC e1,aC e2,aC e3]
  unfold fH
  rw[e4]
 have hp:cT (bY ti).n [St s fl]=[St s fl,.no]:=rfl
 unfold aK
 simp only[vars,bQ,hi,List.map_cons,List.map_nil]
 rw[aav ⟨rfl,by simp⟩,hp,body]
 rfl
end
noncomputable def fy:Fx:=⟨1,3,[(.set 1 (.lst [])),(.loop (.nm 2) (.dN (.slot 0)) [(.expr (.extend 1 (.comp 3 2 (.nm 4) (.jd (.bin .Add (.slot 2) (.val (.int 1))) (.slot 0)) none (.tup [(.slot 2),(.slot 4)]))))]),(.ret (.slot 1))]⟩
noncomputable def Nh(ti:Nat):Option Ex:=some (.cmp .Lt (.call ti [(.slot 0),(.val (.int 8))]) (.ix (.lst [(.val (.int 2)),(.val (.int 4)),(.val (.int 6))]) (.bin .Mod (.slot 3) (.val (.int 3)))))
noncomputable def Ni:List Sm:=[(.expr (.append 4 (.blt .tuple [(.blt .sorted [(.lst [(.ix (.slot 5) (.slot 6)),(.ix (.slot 5) (.ix (.lst [(.bin .Sub (.slot 6) (.val (.int 1))),(.bin .Sub (.slot 6) (.val (.int 1))),(.val (.int 0)),(.bin .FloorDiv (.slot 6) (.val (.int 2)))]) (.bin .Sub (.slot 3) (.val (.int 3)))))])])])))]
noncomputable def Im:Sm:=.ite (.and [(.cmp .Eq (.slot 3) (.val (.int 4))),(.cmp .Gt (.slot 2) (.val (.int 2)))]) [(.expr (.append 4 (.blt .tuple [(.blt .sorted [(.lst [(.ix (.slot 5) (.val (.int 0))),(.ix (.slot 5) (.bin .Sub (.slot 2) (.val (.int 1))))])])])))] []
noncomputable def Nj(ti:Nat):Option Ex:=some (.cmp .Eq (.call ti [(.slot 0),(.val (.int 12))]) (.val (.int 0)))
noncomputable def Nk:Option Ex:=some (.cmp .NotEq (.cmp .In (.slot 9) (.slot 4)) (.cmp .In (.slot 9) (.slot 7)))
noncomputable def Ul(ti:Nat):Sm:=.set 2 (.blt .max [(.val (.int 1)),(.bin .Sub (.slot 1) (.ix (.lst [(.val (.int 0)),(.val (.int 4)),(.val (.int 1)),(.val (.int 0)),(.val (.int 2)),(.val (.int 1)),(.val (.int 3)),(.slot 1)]) (.call ti [(.slot 0),(.val (.int 8))])))])
noncomputable def Nm(ti pi:Nat):Sm:=.ite (.cmp .Gt (.slot 3) (.val (.int 2))) [(.set 4 (.lst [])),(.loop (.nm 6) (.jd (.val (.int 1)) (.slot 2)) Ni),Im,(.set 7 (.comp 8 2 (.nm 9) (.call pi [(.slot 2)]) (Nj ti) (.slot 9))),(.set 4 (.comp 8 2 (.nm 9) (.call pi [(.slot 2)]) Nk (.slot 9)))] []
noncomputable def yI(ti pi mi:Nat):Fx:=⟨2,8,[(Ul ti),(.set 3 (.call ti [(.slot 0),(.val (.int 7))])),(.set 4 (.comp 8 2 (.nm 9) (.call pi [(.slot 2)]) (Nh ti) (.slot 9))),(.set 5 (.call mi [(.slot 0),(.d7 (.slot 2))])),(Nm ti pi),(.ret (.tup [(.slot 2),(.blt .tuple [(.blt .sorted [(.slot 4)])])]))]⟩
noncomputable def uo(m a:Nat):List (List Int):=(List.range (m - (a+1))).map λ(j:Nat)=>[(a:Int),(a:Int)+1+(j:Int)]
noncomputable def pacc(m j:Nat):List (List Int):=((List.range j).map (uo m)).flatten
theorem rX(m j:Nat):pacc m (j+1)=pacc m j++uo m j:=by simp[pacc,List.range_succ]
theorem wA(m:Nat):∀j,(pacc m j).length<=j * m
 | 0=>by simp[pacc]
 |j+1=>by
  rw[rX,aaw,Nat.succ_mul]
  have:=wA m j
  have h2:(uo m j).length<=m:=by simp[uo]
  lia
noncomputable def prs(m:Nat):List (List Int):=pacc m m
noncomputable def okP(m:Nat):Bool:=(prs m).all (λx=>match x with | [a,b]=>decide (0<=a)&&decide (a<b)&&decide (b<m) |_=>false)&&decide ((prs m).Nodup)&&decide ((prs m).length<=15)
theorem Np{m:Nat}(hm:1<=m/\m<=6):okP m=true:=by
 obtain⟨h1,h2⟩:=hm
 match m,h1,h2 with
 | 1,_,_=>decide +kernel
 | 2,_,_=>decide +kernel
 | 3,_,_=>decide +kernel
 | 4,_,_=>decide +kernel
 | 5,_,_=>decide +kernel
 | 6,_,_=>decide +kernel
theorem qk{m:Nat}(hm:1<=m/\m<=6):(∀x∈prs m,Pr m x)/\(prs m).Nodup/\(prs m).length<=15:=by
 have:=Np hm
 unfold okP at this
 simp only[aao,aaz,aaK]at this
 obtain⟨⟨h1,h2⟩,h3⟩:=this
 refine⟨λx hx=>?_,h2,h3⟩
 have:=h1 x hx
 split at this
 .
  rename_i a b
  simp only[aao,aaz]at this
  exact⟨a,b,rfl,this.1.1,this.1.2,this.2⟩
 .
  cases this
theorem Wb.Um{m:Nat}(hm:1<=m/\m<=6){l:List (List Int)}(h:l.Sublist (prs m)):Wb m (dg iI l):=by
 obtain⟨h1,h2,h3⟩:=qk hm
 have hp:=eS (O:=iI) l
 refine⟨λx hx=>h1 x (h.subset (hp.mem_iff.mp hx)),jx (h.nodup h2),?_⟩
 rw[hp.length_eq]
 exact aaI h.length_le h3
section
variable{bor:List Nat}{k n:Nat}{g g1:G}{rn:Nat->Rn}{fns:List Fx}{ti pi mi:Nat}(U:ud fns rn)(hT:fns[ti]?=some bC)(hP:fns[pi]?=some fy)(hM:fns[mi]?=some (lW ti))
include U
theorem ql(m:Nat)(hm:1<=m/\m<=6):cN (rn (n+30)) k fy [.int m]=some (.new ((prs m).map λx=>~~~x)):=by
 have loop:=eF (T:=.nm 2) (b:=(rn (n+29)).b [] k [(.expr (.extend 1 (.comp 3 2 (.nm 4) (.jd (.bin .Add (.slot 2) (.val (.int 1))) (.slot 0)) none (.tup [(.slot 2),(.slot 4)]))))]) (λ(j:Nat)=>D.int (j:Int))
  (I:=λl g=>∃(j:Nat) (s2:Slot),j<=m/\l=List.range' j (m - j)/\g=[.dat (.int m),.own ((pacc m j).map λx=>~~~x),s2])
  (step:=λa l g h=>by
   obtain⟨j,s2,h0,h1,rfl⟩:=h
   have Zg:j<m:=by
    rcases abA j m with h |h
    .
     exact h
    .
     rw[acy h]at h1;cases h1
   have hc:List.range' j (m - j)=j::List.range' (j+1) (m - (j+1)):=by
    rw[show m - j=(m - (j+1))+1 by lia,ab3]
   rw[hc]at h1
   injection h1 with e1 e2
   subst e1 e2
   have aL:(pacc m a).length<=36:=aaI (wA m a) (aaI (Nat.mul_le_mul (show a<=6 by lia) hm.2) (by decide))
   have hlr:(uo m a).length<=6:=by simp[uo];lia
   have w:=kG (rn:=rn (n+26)) (bor:=[]) (k:=k) (g:=[.dat (.int m),.own ((pacc m a).map λx=>~~~x),.dat (.int a)]) (g1:=[.dat (.int m),.own ((pacc m a).map λx=>~~~x),.dat (.int a)]) (kk:=2) (nn:=3) (j:=4) (it:=.jd (.bin .Add (.slot 2) (.val (.int 1))) (.slot 0)) (e:=.tup [(.slot 2),(.slot 4)]) (List.range (m - (a+1))) (λ(j:Nat)=>.int ((a:Int)+1+(j:Int))) (λ(j:Nat)=>.tup [.int (a:Int),.int ((a:Int)+1+(j:Int))]) (by
     have e:((m:Int) - ((a:Int)+1)).toNat=m - (a+1):=by lia
     simp! [U,gA,aP ((a:Int)+1) (by lia),aP m (by lia),e,cS]) rfl (by simp) (by simp) (by simp) (ak _ (by simp;lia)) λx hx G' hG=>by
    have h2:G'[2]?=some (.dat (.int a)):=hG.1 2 (by simp)
    simp! [U,hG.2,h2,ak 2 (by decide)]
   have e3:(List.range (m - (a+1))).map (λ(j:Nat)=>D.tup [.int (a:Int),.int ((a:Int)+1+(j:Int))])=(uo m a).map λx=>~~~x:=by
    unfold uo
    rw[List.map_map]
    rfl
   rw[e3]at w
   have z:(pacc m a).length+(uo m a).length<=lim:=ak _ (by lia)
   refine⟨[.dat (.int m),.own ((pacc m a).map λx=>~~~x),.dat (.int a)],[.dat (.int m),.own ((pacc m (a+1)).map λx=>~~~x),.dat (.int a)],rfl,?_,a+1,_,by lia,rfl,rfl⟩
   rw[rX,List.map_append]
   simp! [U,w,z])
 obtain⟨g',⟨j,s2,h0,h1,rfl⟩,h2⟩:=loop (List.range' 0 m) [.dat (.int m),.own [],.no] ⟨0,.no,by lia,rfl,rfl⟩
 have hj:j=m:=by
  have:(List.range' j (m - j)).length=0:=by rw[<- h1];rfl
  rw[List.length_range']at this
  lia
 subst hj
 have hr:cS 0 j=(List.range' 0 j).map λ(x:Nat)=>D.int (x:Int):=by
  unfold cS
  rw[ab0]
  exact abt λx _=>by rw[Int.zero_add]
 unfold cN fy
 simp! [U,Tg.ix,Tg.pI,gA,aP j (by lia),hr,h2]
 rfl
end
theorem cpS{rn:Rn}{bor:List Nat}{k:Nat}{α:Type}{kk nn j:Nat}{c:Option Ex}(cY:α->D)(gs:Int->G)(hn:∀s,(gs s).length=nn)(hj1:nn<=j)(hj2:j<nn+kk) :
  ∀(items:List α) (s:Int) (m:G) (acc:List D),m.length=kk->acc.length+items.length<=lim->
  (∀a∈items,∀s m acc,m.length=kk->m[j - nn]?=some (.dat (cY a))->∃b s',BZ rn bor k c (gM (gs s) m acc)=some (b,gM (gs s') m acc))->
  (∀a∈items,∀s m acc,m.length=kk->m[j - nn]?=some (.dat (cY a))->dY rn bor k (.slot j) (gM (gs s) m acc)=some (cY a,gM (gs s) m acc))->
  ∃(sub:List α) (s':Int) (m':G),sub.Sublist items/\m'.length=kk/\Ca rn bor k (.nm j) (nn+kk) c (.slot j) (items.map cY) (gM (gs s) m acc)=some (gM (gs s') m' (acc++sub.map cY))
 | [],s,m,acc,hm,_,_,_=>⟨[],s,m,List.Sublist.refl _,hm,by simp[Ca]⟩
 |a::items,s,m,acc,hm,hl,hc,he=>by
  rw[aaQ]at hl
  have Zg:j - nn<m.length:=by lia
  have q1:(Tg.nm j).set (cY a) (gM (gs s) m acc)=some (gM (gs s) (m.set (j - nn) (.dat (cY a))) acc):=by
   have:=HS (g:=gs s) (kk:=kk) (j:=j) (d:=cY a) (m:=m) (acc:=acc) (by rw[hn];exact hj1) (by rw[hn];exact Zg)
   rw[hn]at this
   exact this
  have hm':(m.set (j - nn) (.dat (cY a))).length=kk:=by simpa using hm
  have hg:(m.set (j - nn) (.dat (cY a)))[j - nn]?=some (.dat (cY a)):=by rw[aax Zg]
  obtain⟨b,s',q2⟩:=hc a aah s _ acc hm' hg
  rw[List.map_cons]
  unfold Ca
  rw[q1]
  dsimp only
  rw[q2]
  cases b with
  |false=>
   dsimp only
   obtain⟨sub,s2,m2,w1,w2,w3⟩:=cpS cY gs hn hj1 hj2 items s' _ acc hm' (by lia) (λx hx=>hc x (aaf _ hx)) (λx hx=>he x (aaf _ hx))
   exact⟨sub,s2,m2,w1.cons a,w2,w3⟩
  |true=>
   dsimp only
   rw[he a aah s' _ acc hm' hg]
   dsimp only
   have q4:(gM (gs s') (m.set (j - nn) (.dat (cY a))) acc)[nn+kk]?=some (.own acc):=by
    have:=iV (g:=gs s') (m:=m.set (j - nn) (.dat (cY a))) (acc:=acc)
    rw[hn,hm']at this
    exact this
   rw[q4]
   dsimp only
   rw[aav (by lia)]
   have q5:(gM (gs s') (m.set (j - nn) (.dat (cY a))) acc).set (nn+kk) (.own (acc++[cY a]))=gM (gs s') (m.set (j - nn) (.dat (cY a))) (acc++[cY a]):=by
    have:=iM (g:=gs s') (m:=m.set (j - nn) (.dat (cY a))) (acc:=acc) (acc':=acc++[cY a])
    rw[hn,hm']at this
    exact this
   rw[q5]
   obtain⟨sub,s2,m2,w1,w2,w3⟩:=cpS cY gs hn hj1 hj2 items s' _ (acc++[cY a]) hm' (by rw[aaw,abz];lia) (λx hx=>hc x (aaf _ hx)) (λx hx=>he x (aaf _ hx))
   refine⟨a::sub,s2,m2,w1.cons_cons a,w2,?_⟩
   rw[w3]
   simp
theorem Ov{rn:Rn}{bor:List Nat}{k:Nat}{α:Type}{kk nn j:Nat}{it:Ex}{c:Option Ex}{s:Int}{g:G}(items:List α)(cY:α->D)(gs:Int->G)(hn:∀s,(gs s).length=nn)(hj1:nn<=j)(hj2:j<nn+kk)(hw:gA rn bor k false it g=some (items.map cY,gs s))(hb:j∉bor)(hl:items.length<=lim)
  (hc:∀a∈items,∀s m acc,m.length=kk->m[j - nn]?=some (.dat (cY a))->∃b s',BZ rn bor k c (gM (gs s) m acc)=some (b,gM (gs s') m acc))
  (he:∀a∈items,∀s m acc,m.length=kk->m[j - nn]?=some (.dat (cY a))->dY rn bor k (.slot j) (gM (gs s) m acc)=some (cY a,gM (gs s) m acc)) :
  ∃(sub:List α) (s':Int),sub.Sublist items/\dh rn bor k nn kk (.nm j) it c (.slot j) g=some (sub.map cY,gs s'):=by
 obtain⟨sub,s',m',w1,w2,w3⟩:=cpS (rn:=rn) (bor:=bor) (k:=k) (c:=c) cY gs hn hj1 hj2 items s (List.replicate kk .no) [] (by simp) (by simpa using hl) hc he
 refine⟨sub,s',w1,?_⟩
 unfold dh
 rw[show (Tg.nm j).pI=false from rfl,hw]
 dsimp only
 rw[aav ⟨hn s,by simp[Tg.ix,hb]⟩,HR,w3]
 dsimp only
 have:(gM (gs s') m' ([]++sub.map cY))[nn+kk]?=some (.own ([]++sub.map cY)):=by
  have:=iV (g:=gs s') (m:=m') (acc:=[]++sub.map cY)
  rw[hn,w2]at this
  exact this
 rw[this]
 dsimp only
 have ht:=tZ (g:=gs s') (m:=m') (acc:=[]++sub.map cY)
 rw[hn]at ht
 rw[ht,abT]
section
variable{bor:List Nat}{k n:Nat}{g g1:G}{rn:Nat->Rn}{fns:List Fx}{ti pi mi:Nat}(U:ud fns rn)(hT:fns[ti]?=some bC)(hP:fns[pi]?=some fy)(hM:fns[mi]?=some (lW ti))
include U
theorem sl9{f:G}{m:G}{acc:List D}{d:D}{j nn:Nat}(hf:f.length=nn)(hj:nn<=j)(hm:m[j - nn]?=some (.dat d)):dY (rn (n+1)) bor k (.slot j) (gM f m acc)=some (d,gM f m acc):=by
 have uz:=(aai.mp hm).1
 have:(gM f m acc)[j]?=some (.dat d):=by
  have:=gS (g:=f) (m:=m) (acc:=acc) (i:=j - nn) uz
  rw[hf,show nn+(j - nn)=j by lia]at this
  rw[this,hm]
 simp! [U,this]
noncomputable def fr(s:Int)(fl:Bool)(a2 a3 a4 a5 a6 a7:Slot):G:=[St s fl,.dat (.int 6),a2,a3,a4,a5,a6,a7]
include hT in
theorem w1(s:Int)(fl:Bool):∃(m:Nat) (s':Int),(1<=m/\m<=6)/\aF (rn (n+40)) [0] (k+3) (Ul ti) (fr s fl .no .no .no .no .no .no)=some (.nx,fr s' fl (.dat (.int m)) .no .no .no .no .no):=by
 obtain⟨r,s',r1,r2,q⟩:=bX U (n:=n+16) (k:=k+2) (g:=fr s fl .no .no .no .no .no .no) (i:=0) (s:=s) (fl:=fl) (m:=8) rfl (by decide)
 have q':aK (rn (n+36)) bC (k+2) [.var 0,.dat (.int 8)] [St s fl,.dat (.int 6),.no,.no,.no,.no,.no,.no]=some (.dat (.int r),[St s' fl,.dat (.int 6),.no,.no,.no,.no,.no,.no]):=q
 obtain⟨v,hv,h0⟩:∃v:Int,(0<=v/\v<=6)/\L2.g7 [D.int 0,.int 4,.int 1,.int 0,.int 2,.int 1,.int 3,.int 6] r=some (.int v):=by
  have:r=0\/r=1\/r=2\/r=3\/r=4\/r=5\/r=6\/r=7:=by lia
  rcases this with rfl |rfl |rfl |rfl |rfl |rfl |rfl |rfl <;> exact⟨_,by decide,rfl⟩
 refine⟨(if 6 - v > 1 then 6 - v else 1).toNat,s',?_,?_⟩
 .
  split <;> lia
 .
  have e:(((if 6 - v > 1 then 6 - v else 1).toNat:Nat):Int)=if 6 - v > 1 then 6 - v else 1:=by split <;> lia
  rw[e]
  unfold fr Ul
  simp! [U,hT,q',h0,ak 8 (by decide)]
include hT in
theorem w2(s:Int)(fl:Bool)(a2:Slot):∃(w:Int) (s':Int),(0<=w/\w<7)/\aF (rn (n+40)) [0] (k+3) (.set 3 (.call ti [(.slot 0),(.val (.int 7))])) (fr s fl a2 .no .no .no .no .no)=some (.nx,fr s' fl a2 (.dat (.int w)) .no .no .no .no):=by
 obtain⟨r,s',r1,r2,q⟩:=bX U (n:=n+19) (k:=k+2) (g:=fr s fl a2 .no .no .no .no .no) (i:=0) (s:=s) (fl:=fl) (m:=7) rfl (by decide)
 refine⟨r,s',⟨r1,r2⟩,?_⟩
 have q':aK (rn (n+39)) bC (k+2) [.var 0,.dat (.int 7)] [St s fl,.dat (.int 6),a2,.no,.no,.no,.no,.no]=some (.dat (.int r),[St s' fl,.dat (.int 6),a2,.no,.no,.no,.no,.no]):=q
 unfold fr
 simp! [U,hT,q']
include hT hP in
theorem w3(s:Int)(fl:Bool)(m:Nat)(hm:1<=m/\m<=6)(w:Int)(hw:0<=w/\w<7):∃(sub:List (List Int)) (s':Int),sub.Sublist (prs m)/\aF (rn (n+60)) [0] (k+3) (.set 4 (.comp 8 2 (.nm 9) (.call pi [(.slot 2)]) (Nh ti) (.slot 9))) (fr s fl (.dat (.int m)) (.dat (.int w)) .no .no .no .no)=some (.nx,fr s' fl (.dat (.int m)) (.dat (.int w)) (.own (sub.map λx=>~~~x)) .no .no .no):=by
 have X7:=λn k=>ql U (n:=n) (k:=k) m hm
 obtain⟨_,_,aL⟩:=qk hm
 obtain⟨v,hv⟩:∃v:Int,L2.g7 [D.int 2,.int 4,.int 6] (w % 3)=some (.int v):=by
  have:w % 3=0\/w % 3=1\/w % 3=2:=by lia
  rcases this with e |e |e <;> rw[e] <;> exact⟨_,rfl⟩
 obtain⟨sub,s',h1,h2⟩:=Ov (rn:=rn (n+59)) (bor:=[0]) (k:=k+3) (kk:=2) (nn:=8) (j:=9) (it:=.call pi [(.slot 2)]) (c:=Nh ti) (s:=s) (g:=fr s fl (.dat (.int m)) (.dat (.int w)) .no .no .no .no) (prs m) (λx=>~~~x) (λs=>fr s fl (.dat (.int m)) (.dat (.int w)) .no .no .no .no) (λ_=>rfl) (by decide) (by decide) (by unfold fr;simp! [U,gA,hP,bI (fx:=fy) rfl,X7]) (by decide) (ak _ (by lia)) (λa _ s mm acc h1 h2=>by
   obtain⟨r,s',r1,r2,q⟩:=bX U (n:=n+37) (k:=k+2) (g:=gM (fr s fl (.dat (.int m)) (.dat (.int w)) .no .no .no .no) mm acc) (i:=0) (s:=s) (fl:=fl) (m:=8) rfl (by decide)
   have q':aK (rn (n+57)) bC (k+2) [.var 0,.dat (.int 8)] (gM (fr s fl (.dat (.int m)) (.dat (.int w)) .no .no .no .no) mm acc)=some (.dat (.int r),gM (fr s' fl (.dat (.int m)) (.dat (.int w)) .no .no .no .no) mm acc):=q
   have g0:∀s,(gM (fr s fl (.dat (.int m)) (.dat (.int w)) .no .no .no .no) mm acc)[0]?=some (St s fl):=λ_=>rfl
   have g3:∀s,(gM (fr s fl (.dat (.int m)) (.dat (.int w)) .no .no .no .no) mm acc)[3]?=some (.dat (.int w)):=λ_=>rfl
   refine⟨decide (r<v),s',?_⟩
   simp! [U,Nh,BZ,hT,g0,g3,q',nX w 3 (by decide),hv,ak 3 (by decide)]) (λa _ s mm acc h1 h2=>sl9 U (n:=n+58) (nn:=8) rfl (by decide) h2)
 refine⟨sub,s',h1,?_⟩
 simp only[aF,U.e,aN,h2]
 simp[fr]
end
noncomputable def X8(l:List (List Int))(x:List Int):Bool:=(l.map λx=>~~~x).any λd=>bL d (~~~x)
theorem Uo(l:List (List Int))(x:List Int):d8 .In (~~~x) (.lst (l.map λx=>~~~x))=some (X8 l x):=by
 have h:vA (~~~x) (l.map λx=>~~~x)=true:=by
  have:=CJ l
  simp only[vA,fO,eG,CG,aao,aaz,true_and]
  lia
 simp only[d8,cR,h,abM]
 rfl
theorem Up(a b:Bool):d8 .NotEq (.bl a) (.bl b)=some (!(a==b)):=rfl
theorem z8(a b:Int):pJ .sorted [.lst [.int a,.int b]]=some (.new ((cA [a,b]).map .int)):=mU [a,b] (by simp)
section
variable{bor:List Nat}{k n:Nat}{g g1:G}{rn:Nat->Rn}{fns:List Fx}{ti pi mi:Nat}(U:ud fns rn)(hT:fns[ti]?=some bC)(hP:fns[pi]?=some fy)(hM:fns[mi]?=some (lW ti))
include U
include hT hM in
theorem w4(s:Int)(fl:Bool)(m:Nat)(hm:1<=m/\m<=6)(a3 a4:Slot):∃(row:List Int) (s':Int),row.length=m/\aF (rn (n+60)) [0] (k+3) (.set 5 (.call mi [(.slot 0),(.d7 (.slot 2))])) (fr s fl (.dat (.int m)) a3 a4 .no .no .no)=some (.nx,fr s' fl (.dat (.int m)) a3 a4 (.own (row.map .int)) .no .no):=by
 have hr:cS 0 m=(nums m).map .int:=gj m
 have hl:=iO m
 obtain⟨row,s',v7,q⟩:=Ig U hT (n:=n+9) (k:=k+1) (g:=fr s fl (.dat (.int m)) a3 a4 .no .no .no) (i:=0) (s:=s) (fl:=fl) (nums m) rfl (by lia)
 have q':aK (rn (n+59)) (lW ti) (k+2) [.var 0,.dat (.lst ((nums m).map .int))] [St s fl,.dat (.int 6),.dat (.int m),a3,a4,.no,.no,.no]=some (.new (row.map .int),[St s' fl,.dat (.int 6),.dat (.int m),a3,a4,.no,.no,.no]):=q
 refine⟨row,s',by rw[v7.length_eq,hl],?_⟩
 unfold fr
 simp! [U,hM,q',aP m (by lia),ak m (by lia),hr]
theorem w5(s:Int)(fl:Bool)(m:Nat)(hm:1<=m/\m<=6)(w:Int)(hw:3<=w/\w<7)(row:List Int)(v7:row.length=m)(a6 a7:Slot):∃(ao:List (List Int)) (a6':Slot),ao.length<=m/\aF (rn (n+60)) [0] (k+3) (.loop (.nm 6) (.jd (.val (.int 1)) (.slot 2)) Ni) (fr s fl (.dat (.int m)) (.dat (.int w)) (.own []) (.own (row.map .int)) a6 a7)=some (.nx,fr s fl (.dat (.int m)) (.dat (.int w)) (.own (ao.map λx=>~~~x)) (.own (row.map .int)) a6' a7):=by
 have loop:=eF (T:=.nm 6) (b:=(rn (n+60)).b [0] (k+3) Ni) (λ(j:Nat)=>D.int (1+(j:Int)))
  (I:=λl g=>∃(j:Nat) (ao:List (List Int)) (s6:Slot),j<m/\l=List.range' j (m - 1 - j)/\ao.length<=j/\g=fr s fl (.dat (.int m)) (.dat (.int w)) (.own (ao.map λx=>~~~x)) (.own (row.map .int)) s6 a7)
  (step:=λa l g h=>by
   obtain⟨j,ao,s6,h0,h1,h2,rfl⟩:=h
   have Zg:j<m - 1:=by
    rcases abA j (m - 1)with h |h
    .
     exact h
    .
     rw[acy h]at h1;cases h1
   have hc:List.range' j (m - 1 - j)=j::List.range' (j+1) (m - 1 - (j+1)):=by
    rw[show m - 1 - j=(m - 1 - (j+1))+1 by lia,ab3]
   rw[hc]at h1
   injection h1 with e1 e2
   subst e1 e2
   obtain⟨z,hz⟩:∃z:Int,z=1+(a:Int):=⟨_,rfl⟩
   rw[<- hz]
   obtain⟨v,hv,h3⟩:∃v:Int,(0<=v/\v<m)/\L2.g7 [D.int (z - 1),.int (z - 1),.int 0,.int (z / 2)] (w - 3)=some (.int v):=by
    have:w=3\/w=4\/w=5\/w=6:=by lia
    rcases this with rfl |rfl |rfl |rfl
    .
     exact⟨z - 1,by lia,rfl⟩
    .
     exact⟨z - 1,by lia,rfl⟩
    .
     exact⟨0,by lia,rfl⟩
    .
     exact⟨z / 2,by lia,rfl⟩
   have a1:L2.g7 (row.map D.int) z=some (.int (gt row z)):=cJ (by lia)
   have a2:L2.g7 (row.map D.int) v=some (.int (gt row v)):=cJ (by lia)
   have z2:ao.length<lim:=aan (abx _) (ak (ao.length+1) (by lia))
   refine⟨fr s fl (.dat (.int m)) (.dat (.int w)) (.own (ao.map λx=>~~~x)) (.own (row.map .int)) (.dat (.int z)) a7,fr s fl (.dat (.int m)) (.dat (.int w)) (.own ((ao++[cA [gt row z,gt row v]]).map λx=>~~~x)) (.own (row.map .int)) (.dat (.int z)) a7,rfl,?_,a+1,_,_,by lia,rfl,by rw[aaw,abz];lia,rfl⟩
   rw[List.map_append]
   unfold fr Ni
   simp! [U,a1,a2,h3,uh _ _ (show (0:Int)<2/\(2:Int)<1073741824 by decide),z8,z2,ak 4 (by decide),ak 2 (by decide)]
   rfl)
 obtain⟨g',⟨j,ao,s6,h0,h1,h2,rfl⟩,h3⟩:=loop (List.range' 0 (m - 1)) (fr s fl (.dat (.int m)) (.dat (.int w)) (.own []) (.own (row.map .int)) a6 a7) ⟨0,[],a6,by lia,rfl,by simp,rfl⟩
 have hr:cS 1 (m - 1)=(List.range' 0 (m - 1)).map λ(x:Nat)=>D.int (1+(x:Int)):=by
  unfold cS
  rw[ab0]
 refine⟨ao,s6,by lia,?_⟩
 have e:((m:Int) - 1).toNat=m - 1:=by lia
 unfold fr at h3 ⊢
 simp! [U,Tg.ix,Tg.pI,gA,aP 1 (by lia),aP m (by lia),e,hr,h3]
theorem w6(s:Int)(fl:Bool)(m:Nat)(hm:1<=m/\m<=6)(w:Int)(row:List Int)(v7:row.length=m)(ao:List (List Int))(ht:ao.length<=m)(a6 a7:Slot):∃(Yb:List (List Int)),aF (rn (n+60)) [0] (k+3) Im (fr s fl (.dat (.int m)) (.dat (.int w)) (.own (ao.map λx=>~~~x)) (.own (row.map .int)) a6 a7)=some (.nx,fr s fl (.dat (.int m)) (.dat (.int w)) (.own (Yb.map λx=>~~~x)) (.own (row.map .int)) a6 a7):=by
 by_cases h4:w=4
 .
  by_cases h5:(m:Int) > 2
  .
   have a1:L2.g7 (row.map D.int) 0=some (.int (gt row 0)):=cJ (by lia)
   have a2:L2.g7 (row.map D.int) ((m:Int) - 1)=some (.int (gt row ((m:Int) - 1))):=cJ (by lia)
   have z2:ao.length<lim:=aan (abx _) (ak (ao.length+1) (by lia))
   have h6:(2:Int)<m:=h5
   refine⟨ao++[cA [gt row 0,gt row ((m:Int) - 1)]],?_⟩
   rw[List.map_append]
   unfold fr Im
   subst h4
   simp! [U,a1,a2,h5,h6,z8,z2,ak 2 (by decide)]
   rfl
  .
   have h6 : ¬ (2:Int)<m:=h5
   refine⟨ao,?_⟩
   unfold fr Im
   subst h4
   simp! [U,h5,h6]
 .
  refine⟨ao,?_⟩
  unfold fr Im
  simp! [U,h4]
include hT hP in
theorem w7(s:Int)(fl:Bool)(m:Nat)(hm:1<=m/\m<=6)(a3 a4 a5 a6:Slot):∃(sub:List (List Int)) (s':Int),aF (rn (n+60)) [0] (k+3) (.set 7 (.comp 8 2 (.nm 9) (.call pi [(.slot 2)]) (Nj ti) (.slot 9))) (fr s fl (.dat (.int m)) a3 a4 a5 a6 .no)=some (.nx,fr s' fl (.dat (.int m)) a3 a4 a5 a6 (.own (sub.map λx=>~~~x))):=by
 have X7:=λn k=>ql U (n:=n) (k:=k) m hm
 obtain⟨_,_,aL⟩:=qk hm
 obtain⟨sub,s',h1,h2⟩:=Ov (rn:=rn (n+59)) (bor:=[0]) (k:=k+3) (kk:=2) (nn:=8) (j:=9) (it:=.call pi [(.slot 2)]) (c:=Nj ti) (s:=s) (g:=fr s fl (.dat (.int m)) a3 a4 a5 a6 .no) (prs m) (λx=>~~~x) (λs=>fr s fl (.dat (.int m)) a3 a4 a5 a6 .no) (λ_=>rfl) (by decide) (by decide) (by unfold fr;simp! [U,gA,hP,bI (fx:=fy) rfl,X7]) (by decide) (ak _ (by lia)) (λa _ s mm acc h1 h2=>by
   obtain⟨r,s',r1,r2,q⟩:=bX U (n:=n+37) (k:=k+2) (g:=gM (fr s fl (.dat (.int m)) a3 a4 a5 a6 .no) mm acc) (i:=0) (s:=s) (fl:=fl) (m:=12) rfl (by decide)
   have q':aK (rn (n+57)) bC (k+2) [.var 0,.dat (.int 12)] (gM (fr s fl (.dat (.int m)) a3 a4 a5 a6 .no) mm acc)=some (.dat (.int r),gM (fr s' fl (.dat (.int m)) a3 a4 a5 a6 .no) mm acc):=q
   have g0:∀s,(gM (fr s fl (.dat (.int m)) a3 a4 a5 a6 .no) mm acc)[0]?=some (St s fl):=λ_=>rfl
   refine⟨decide (r=0),s',?_⟩
   simp! [U,Nj,BZ,hT,g0,q']) (λa _ s mm acc h1 h2=>sl9 U (n:=n+58) (nn:=8) rfl (by decide) h2)
 refine⟨sub,s',?_⟩
 simp only[aF,U.e,aN,h2]
 simp[fr]
include hP in
theorem w8(s:Int)(fl:Bool)(m:Nat)(hm:1<=m/\m<=6)(ao odd:List (List Int))(a3 a5 a6:Slot):∃(sub:List (List Int)),sub.Sublist (prs m)/\aF (rn (n+60)) [0] (k+3) (.set 4 (.comp 8 2 (.nm 9) (.call pi [(.slot 2)]) Nk (.slot 9))) (fr s fl (.dat (.int m)) a3 (.own (ao.map λx=>~~~x)) a5 a6 (.own (odd.map λx=>~~~x)))=some (.nx,fr s fl (.dat (.int m)) a3 (.own (sub.map λx=>~~~x)) a5 a6 (.own (odd.map λx=>~~~x))):=by
 have X7:=λn k=>ql U (n:=n) (k:=k) m hm
 obtain⟨_,_,aL⟩:=qk hm
 have w:=HW (rn:=rn (n+59)) (bor:=[0]) (k:=k+3) (g:=fr s fl (.dat (.int m)) a3 (.own (ao.map λx=>~~~x)) a5 a6 (.own (odd.map λx=>~~~x))) (g1:=fr s fl (.dat (.int m)) a3 (.own (ao.map λx=>~~~x)) a5 a6 (.own (odd.map λx=>~~~x))) (kk:=2) (nn:=8) (j:=9) (it:=.call pi [(.slot 2)]) (c:=Nk) (e:=.slot 9) (prs m) (λx=>~~~x) (λx=>!(X8 ao x==X8 odd x)) (λx=>~~~x) (by unfold fr;simp! [U,gA,hP,bI (fx:=fy) rfl,X7]) rfl (by simp[fr]) (by simp[fr]) (by simp) (ak _ (by lia))
  (λa _ G' hG=>by
   have h4:G'[4]?=some (.own (ao.map λx=>~~~x)):=hG.1 4 (by simp[fr])
   have h7:G'[7]?=some (.own (odd.map λx=>~~~x)):=hG.1 7 (by simp[fr])
   simp! [U,Nk,BZ,hG.2,h4,h7,Uo,Up])
  (λa _ _ G' hG=>by simp! [U,hG.2])
 refine⟨(prs m).filter λx=>!(X8 ao x==X8 odd x),List.filter_sublist,?_⟩
 simp only[aF,U.e,aN,w]
 simp[fr]
end
section
variable{bor:List Nat}{k n:Nat}{g g1:G}{rn:Nat->Rn}{fns:List Fx}{ti pi mi:Nat}(U:ud fns rn)(hT:fns[ti]?=some bC)(hP:fns[pi]?=some fy)(hM:fns[mi]?=some (lW ti))
include U
include hT hP in
theorem w9(s:Int)(fl:Bool)(m:Nat)(hm:1<=m/\m<=6)(w:Int)(hw:0<=w/\w<7)(row:List Int)(v7:row.length=m)(uq:List (List Int))(hs:uq.Sublist (prs m)):∃(sub:List (List Int)) (s':Int) (a6 a7:Slot),sub.Sublist (prs m)/\aF (rn (n+62)) [0] (k+3) (Nm ti pi) (fr s fl (.dat (.int m)) (.dat (.int w)) (.own (uq.map λx=>~~~x)) (.own (row.map .int)) .no .no)=some (.nx,fr s' fl (.dat (.int m)) (.dat (.int w)) (.own (sub.map λx=>~~~x)) (.own (row.map .int)) a6 a7):=by
 by_cases Va:w > 2
 .
  obtain⟨t1,a6,h1,q1⟩:=w5 U (n:=n+1) (k:=k) s fl m hm w (by lia) row v7 .no .no
  obtain⟨t2,q2⟩:=w6 U (n:=n+1) (k:=k) s fl m hm w row v7 t1 h1 a6 .no
  obtain⟨odd,s',q3⟩:=w7 U hT hP (n:=n+1) (k:=k) s fl m hm (.dat (.int w)) (.own (t2.map λx=>~~~x)) (.own (row.map .int)) a6
  obtain⟨sub,h4,q4⟩:=w8 U hP (n:=n+1) (k:=k) s' fl m hm t2 odd (.dat (.int w)) (.own (row.map .int)) a6
  refine⟨sub,s',a6,.own (odd.map λx=>~~~x),h4,?_⟩
  have ht:(rn (n+62)).t [0] (k+3) (.cmp .Gt (.slot 3) (.val (.int 2))) (fr s fl (.dat (.int m)) (.dat (.int w)) (.own (uq.map λx=>~~~x)) (.own (row.map .int)) .no .no)=some (true,fr s fl (.dat (.int m)) (.dat (.int w)) (.own (uq.map λx=>~~~x)) (.own (row.map .int)) .no .no):=by
   unfold fr
   simp! [U,Va]
  have q0:aF (rn (n+61)) [0] (k+3) (.set 4 (.lst [])) (fr s fl (.dat (.int m)) (.dat (.int w)) (.own (uq.map λx=>~~~x)) (.own (row.map .int)) .no .no)=some (.nx,fr s fl (.dat (.int m)) (.dat (.int w)) (.own []) (.own (row.map .int)) .no .no):=by
   unfold fr
   simp! [U,U.e]
  unfold Nm
  rw[aF]
  rw[ht]
  dsimp only
  rw[U.b]
  rw[aC q0,aC q1,aC q2,aC q3,aC q4]
  rfl
 .
  refine⟨uq,s,.no,.no,hs,?_⟩
  unfold fr Nm
  simp! [U,Va]
include hT hP hM in
theorem Uq{i:Nat}{s:Int}{fl:Bool}(hi:g[i]?=some (St s fl)):∃(m:Nat) (ao:List (List Int)) (s':Int),(1<=m/\m<=6)/\Wb m ao/\aK (rn (n+80)) (yI ti pi mi) (k+3) [.var i,.dat (.int 6)] g=some (.dat (W m ao),g.set i (St s' fl)):=by
 obtain⟨m,s1,hm,q1⟩:=w1 U hT (n:=n+39) (k:=k) s fl
 obtain⟨w,s2,hw,q2⟩:=w2 U hT (n:=n+39) (k:=k) s1 fl (.dat (.int m))
 obtain⟨uq,s3,h3,q3⟩:=w3 U hT hP (n:=n+19) (k:=k) s2 fl m hm w hw
 obtain⟨row,s4,h4,q4⟩:=w4 U hT hM (n:=n+19) (k:=k) s3 fl m hm (.dat (.int w)) (.own (uq.map λx=>~~~x))
 obtain⟨sub,s5,a6,a7,h5,q5⟩:=w9 U hT hP (n:=n+17) (k:=k) s4 fl m hm w hw row h4 uq h3
 obtain⟨p1,p2,p3⟩:=qk hm
 have hso:=fc sub (λx hx=>by obtain⟨a,b,rfl,_⟩:=p1 x (h5.subset hx);exact List.cons_ne_nil _ _) (Nat.lt_of_le_of_lt (aaI h5.length_le p3) (by decide))
 refine⟨m,dg iI sub,s5,hm,Wb.Um hm h5,?_⟩
 have hp:cT (yI ti pi mi).n [St s fl,.dat (.int 6)]=fr s fl .no .no .no .no .no .no:=rfl
 have body:(rn (n+80)).b [0] (k+3) (yI ti pi mi).body (fr s fl .no .no .no .no .no .no)=some (.rt (.dat (W m (dg iI sub))),fr s5 fl (.dat (.int m)) (.dat (.int w)) (.own (sub.map λx=>~~~x)) (.own (row.map .int)) a6 a7):=by
  unfold yI
  rw[U.b,aC q1,aC q2,aC q3,aC q4,aC q5]
  unfold fr
  simp! [U,hso,ak 2 (by decide)]
  rfl
 unfold aK
 simp only[vars,bQ,hi,List.map_cons,List.map_nil]
 rw[aav ⟨rfl,by simp⟩,hp,body]
 rfl
end
section
variable{rn:Rn}{bor:List Nat}{k:Nat}
theorem CV{g m:G}{acc:List D}{i:Nat}{s:Slot}(h:i<g.length):(gM g m acc).set i s=gM (g.set i s) m acc:=by
 unfold gM
 rw[List.set_append_left _ _ h]
theorem wB{i j last kk:Nat}{fl:Bool}{e:Ex}{P:D->Prop}(g:G)(hi:i<g.length)(iF:last=g.length+kk)(hj1:g.length<=j)(hj2:j<g.length+kk)
  (he:∀s G',G'[i]?=some (St s fl)->(∀i',i'≠i->i'<g.length->G'[i']?=g[i']?)->∃d s',P d/\dY rn bor k e G'=some (d,G'.set i (St s' fl))) :
  ∀(items:List D) (s:Int) (m:G) (acc:List D),m.length=kk->acc.length+items.length<=lim->∃ds s' m',m'.length=kk/\ds.length=items.length/\(∀d∈ds,P d)/\Ca rn bor k (.nm j) last none e items (gM (g.set i (St s fl)) m acc)=some (gM (g.set i (St s' fl)) m' (acc++ds))
 | [],s,m,acc,hm,_=>⟨[],s,m,hm,rfl,(λ_ h=>nomatch h),by rw[aaV];rfl⟩
 |x::items,s,m,acc,hm,hl=>by
  rw[aaQ]at hl
  have hg:(g.set i (St s fl)).length=g.length:=aa2
  have q1:Tg.set (.nm j) x (gM (g.set i (St s fl)) m acc)=some (gM (g.set i (St s fl)) (m.set (j - g.length) (.dat x)) acc):=by
   show some ((gM (g.set i (St s fl)) m acc).set j (.dat x))=_
   have:=gU (g:=g.set i (St s fl)) (m:=m) (acc:=acc) (i:=j - g.length) (s:=.dat x) (by lia)
   rw[hg,show g.length+(j - g.length)=j by lia]at this
   rw[this]
  obtain⟨d,s1,hd,q2⟩:=he s (gM (g.set i (St s fl)) (m.set (j - g.length) (.dat x)) acc) (by rw[iU (by lia),aax hi]) λi' h1 h2=>by rw[iU (by lia),aar (aaX h1)]
  rw[CV (by lia),List.set_set]at q2
  have hm':(m.set (j - g.length) (Slot.dat x)).length=kk:=by rw[aa2];exact hm
  obtain⟨ds,s',m',w1,w2,w3,w4⟩:=wB g hi iF hj1 hj2 he items s1 (m.set (j - g.length) (.dat x)) (acc++[d]) hm' (by rw[aaw,abz];lia)
  refine⟨d::ds,s',m',w1,by rw[aaQ,aaQ,w2],λy hy=>(aaj.mp hy).elim (λe=>e▸hd) (w3 y),?_⟩
  have uC:(g.set i (St s1 fl)).length=g.length:=aa2
  have q4:(gM (g.set i (St s1 fl)) (m.set (j - g.length) (.dat x)) acc)[last]?=some (.own acc):=by rw[iF,<- hm',<- uC];exact iV
  have q5:(gM (g.set i (St s1 fl)) (m.set (j - g.length) (.dat x)) acc).set last (.own (acc++[d]))=gM (g.set i (St s1 fl)) (m.set (j - g.length) (.dat x)) (acc++[d]):=by rw[iF,<- hm',<- uC];exact iM
  unfold Ca
  rw[q1]
  dsimp only[BZ]
  rw[q2]
  dsimp only
  rw[q4]
  dsimp only
  rw[aav (by lia),q5,w4,ack]
  rfl
theorem CW{i j nn kk:Nat}{fl:Bool}{it e:Ex}{P:D->Prop}(g:G)(s:Int)(hg:g[i]?=some (St s fl))(items:List D)(hw:gA rn bor k false it g=some (items,g))(hn:nn=g.length)(hj1:g.length<=j)(hj2:j<g.length+kk)(hb:j∉bor)(hl:items.length<=lim)
  (he:∀s G',G'[i]?=some (St s fl)->(∀i',i'≠i->i'<g.length->G'[i']?=g[i']?)->∃d s',P d/\dY rn bor k e G'=some (d,G'.set i (St s' fl))) :
  ∃ds s',ds.length=items.length/\(∀d∈ds,P d)/\dh rn bor k nn kk (.nm j) it none e g=some (ds,g.set i (St s' fl)):=by
 subst hn
 have hi:i<g.length:=(aai.mp hg).1
 obtain⟨ds,s',m',w1,w2,w3,w4⟩:=wB g hi rfl hj1 hj2 he items s (List.replicate kk .no) [] (by simp) (by simpa using hl)
 have e0:g.set i (St s fl)=g:=by
  apply List.ext_getElem?
  intro a
  by_cases h:a=i
  .
   subst h;rw[aax hi,hg]
  .
   rw[aar (aaX h)]
 rw[e0]at w4
 refine⟨ds,s',w2,w3,?_⟩
 have uC:(g.set i (St s' fl)).length=g.length:=aa2
 have q4:(gM (g.set i (St s' fl)) m' ([]++ds))[g.length+kk]?=some (.own ds):=by
  have:=iV (g:=g.set i (St s' fl)) (m:=m') (acc:=[]++ds)
  rw[uC,w1]at this
  exact this
 have q5:(gM (g.set i (St s' fl)) m' ([]++ds)).take g.length=g.set i (St s' fl):=by rw[<- uC];exact tZ
 unfold dh
 rw[show Tg.pI (.nm j)=false from rfl,hw]
 dsimp only
 rw[aav ⟨rfl,by simpa [Tg.ix]using hb⟩,HR,w4]
 dsimp only
 rw[q4]
 dsimp only
 rw[q5]
end
end Ev
namespace K2
open Ev
noncomputable def gD:List PySem.Addr:=[37,49,61]
noncomputable def Vi:Fx:=⟨1,5,[(.set 1 (.val .non)),.stuck,(.set 3 (.lst [(.tQ (.slot 1) [(37,true),(49,false),(61,false)]),(.tQ (.slot 1) [(37,false),(49,true),(61,false)]),(.tQ (.slot 1) [(37,false),(49,false),(61,true)])])),(.set 3 (.bin .Add (.slot 3) (.lst [(.tQ (.slot 1) [(37,false),(49,false),(61,false)]),(.tQ (.slot 1) [(37,false),(49,false),(61,false)]),(.tQ (.slot 1) [(37,false),(49,false),(61,false)])]))),(.set 3 (.bin .Add (.slot 3) (.lst [(.tQ (.slot 1) [(37,false),(49,false),(61,false)]),(.tQ (.slot 1) [(37,false),(49,false),(61,false)]),(.tQ (.slot 1) [(37,false),(49,false),(61,false)])]))),(.expr (.append 3 (.tQ (.slot 1) [(37,false),(49,false),(61,false)]))),(.ite (.not (.tQ (.slot 1) [(37,true),(49,true),(61,true)])) [(.ret (.val .non))] []),(.setC 4 (.comp 5 2 (.nm 6) (.dN (.val (.int 10))) (some (.ix (.slot 3) (.slot 6))) (.slot 6))),(.ret (.ite (.cmp .Eq (.slot 4) (.lst [(.val (.int 9))])) .stk (.slot 4)))]⟩
noncomputable def sA:Sm:=.ite (.cmp .NotEq (.ig 28 1 gD (.call 9 [(.slot 7),(.slot 5)])) (.lst [(.val (.int 0))])) [(.ret (.val (.bl false)))] []
noncomputable def sB:Sm:=.calls 3 (.refs 28 1 gD [(.call 7 [(.slot 4),(.val .non)]),(.call 12 [(.slot 4),(.val .non),(.val .non)]),(.call 13 [(.slot 4),(.val .non)])]) .NotEq (.bin .Mult (.lst [(.lst [(.val (.int 1))])]) (.val (.int 3))) false [(.ret (.val (.bl false)))]
noncomputable def sC:Sm:=.calls 3 (.refs 28 1 gD [(.call 9 [(.slot 1),(.slot 5)]),(.call 12 [(.slot 6),(.slot 5),(.slot 2)]),(.call 12 [(.slot 6),(.slot 2),(.slot 5)]),(.call 13 [(.slot 6),(.slot 5)])]) .Eq (.bin .Mult (.lst [(.lst [(.val (.int 2))])]) (.val (.int 4))) true []
noncomputable def Ur:Fx:=⟨3,8,[(.tgt (.tp [6,7]) (.tup [(.ix (.slot 1) (.val (.int 0))),(.call 25 [(.slot 0)])])),(.tgt (.tp [4,5]) (.tup [(.call 26 [(.slot 0),(.val (.int 6))]),(.call 24 [(.slot 0),(.slot 2)])])),sA,sB,(.ite (.call 23 [(.slot 6),(.slot 5)]) [(.ret (.val (.bl true)))] []),sC]⟩
noncomputable def rY:List Sm:=[(.ite (.not (.peek (.call 27 [(.call 7 [(.slot 4),(.slot 8)]),(.call 23 [(.slot 4),(.slot 8)])]))) [(.ret (.val (.bl false)))] [])]
noncomputable def wC:List Sm:=[(.set 2 (.call 15 [(.slot 0),(.slot 1)])),(.set 3 (.call 19 [(.slot 2),(.val (.int 6))])),(.set 4 (.ix (.slot 3) (.val (.int 0)))),(.set 5 (.call 20 [(.slot 2),(.slot 4)])),(.set 6 (.call 20 [(.slot 2),(.slot 4)])),(.set 7 (.bin .Add (.lst [(.slot 5)]) (.comp 11 2 (.nm 12) (.dN (.val (.int 5))) none (.call 24 [(.slot 2),(.slot 5)])))),(.loop (.nm 8) (.slot 7) rY),(.ite (.not (.peek (.call 27 [(.call 9 [(.slot 3),(.slot 5)]),(.call 21 [(.slot 3),(.slot 5)])]))) [(.ret (.val (.bl false)))] []),(.set 9 (.blt .tuple [(.comp 11 2 (.nm 12) (.dN (.slot 4)) none (.ix (.slot 6) (.ix (.slot 5) (.slot 12))))])),(.ite (.not (.peek (.call 27 [(.call 12 [(.slot 4),(.slot 5),(.slot 6)]),(.slot 9)]))) [(.ret (.val (.bl false)))] []),(.set 10 (.blt .tuple [(.comp 11 2 (.nm 12) (.dN (.slot 4)) none (.meth .index (.slot 5) (.slot 12)))])),(.ite (.not (.peek (.call 27 [(.call 13 [(.slot 4),(.slot 5)]),(.slot 10)]))) [(.ret (.val (.bl false)))] []),(.ite (.not (.call 29 [(.slot 2),(.slot 3),(.slot 5)])) [(.ret (.val (.bl false)))] [])]
noncomputable def Vj:Fx:=⟨1,11,[(.loop (.nm 1) (.dN (.blt .max [(.val (.int 1)),(.blt .min [(.blt .len [(.slot 0)]),(.val (.int 8))])])) wC),(.ret (.val (.bl true)))]⟩
noncomputable def fns:List Fx:=[bT,bA 0,cM 1 1,fh 1 4 5,jO 1,yF,bF 3 0,bq 2 0,aJ 7 2,cX 6 8 10,CK 11,mh,bK 8,iP 8,mV,lX 14,bC,fy,lW 16,yI 16 17 18,jw 16 18,fj,bT,cW 22,mY 16,bY 16,gW 16,cC 27,Vi,Ur,Vj]
theorem c0:fns[0]?=some (bT):=rfl
theorem c1:fns[1]?=some (bA 0):=rfl
theorem c2:fns[2]?=some (cM 1 1):=rfl
theorem c3:fns[3]?=some (fh 1 4 5):=rfl
theorem c4:fns[4]?=some (jO 1):=rfl
theorem c5:fns[5]?=some (yF):=rfl
theorem c6:fns[6]?=some (bF 3 0):=rfl
theorem c7:fns[7]?=some (bq 2 0):=rfl
theorem c8:fns[8]?=some (aJ 7 2):=rfl
theorem c9:fns[9]?=some (cX 6 8 10):=rfl
theorem c10:fns[10]?=some (CK 11):=rfl
theorem c11:fns[11]?=some (mh):=rfl
theorem c12:fns[12]?=some (bK 8):=rfl
theorem c13:fns[13]?=some (iP 8):=rfl
theorem c14:fns[14]?=some (mV):=rfl
theorem c15:fns[15]?=some (lX 14):=rfl
theorem c16:fns[16]?=some (bC):=rfl
theorem c17:fns[17]?=some (fy):=rfl
theorem c18:fns[18]?=some (lW 16):=rfl
theorem c19:fns[19]?=some (yI 16 17 18):=rfl
theorem c20:fns[20]?=some (jw 16 18):=rfl
theorem c21:fns[21]?=some (fj):=rfl
theorem c22:fns[22]?=some (bT):=rfl
theorem c23:fns[23]?=some (cW 22):=rfl
theorem c24:fns[24]?=some (mY 16):=rfl
theorem c25:fns[25]?=some (bY 16):=rfl
theorem c26:fns[26]?=some (gW 16):=rfl
theorem Ow:fns[27]?=some (cC 27):=rfl
theorem c28:fns[28]?=some (Vi):=rfl
theorem c29:fns[29]?=some (Ur):=rfl
end K2
namespace K2
open Ev
noncomputable def CZ(rn:Rn)(k:Nat)(C:Nat)(c:Int):Prop:=∃r g3,rn.b [] k (Vi.body.drop 2) ((List.replicate Vi.n .no).set 1 (.dat (.mC C)))=some (.rt r,g3)/\dz [] g3 r=some (.new [.int c])
structure Fk(rn:Nat->Rn)(n k:Nat):Prop where
 bd:∀d∈nG,fM (rn (n+120)) (k+8) (bF 3 0) [d]=some 0
 a0:CZ (rn (n+123)) (k+10) 37 0
 a1:CZ (rn (n+124)) (k+10) 49 1
 a2:CZ (rn (n+124)) (k+10) 61 2
section
variable{k n:Nat}{g g1:G}{rn:Nat->Rn}(U:ud fns rn)(F:Fk rn n k)
include U
omit U in
theorem gX{rn:Rn}{k:Nat}{e:Ex}{g g':G}{ci C:Nat}{c:Int}(hx:rn.x [] k e (g.map noOwn)=some (ci,g'))(hc:gD[ci]?=some C)(hr:CZ rn k C c):GP rn (k+2) fns 28 1 gD e g=some (.lst [.int c]):=by
 obtain⟨r,g3,h1,h2⟩:=hr
 unfold GP
 simp only[c28,hx,hc,h1,h2]
 rfl
theorem Nq{L:Nat}{bor:List Nat}{e:Ex}{g g':G}{ci C:Nat}{c:Int}(hx:(rn L).x [] (k+10) e (g.map noOwn)=some (ci,g'))(hc:gD[ci]?=some C)(hr:CZ (rn L) (k+10) C c):(rn (L+1)).e bor (k+12) (.ig 28 1 gD e) g=some (.new [.int c],g):=by
 obtain⟨r,g3,h1,h2⟩:=hr
 rw[U.e]
 simp only[aN,c28,hx,hc,h1,h2]
include F
theorem refusals{i:Nat}{s:Int}{fl:Bool}(m:Nat)(hm:1<=m/\m<=6)(ao:List (List Int))(h:Wb m ao)(t:List Int)(ht:Tn m t)(hi:g[i]?=some (St s fl)):∃s',aK (rn (n+126)) Ur (k+12) [.var i,.dat (W m ao),.dat (~~~t)] g=some (.dat (.bl true),g.set i (St s' fl)):=by
 have i0:Du (W m ao) (.int 0)=some (.int m):=rfl
 obtain⟨w,s1,hw,q1⟩:=CT U c16 (n:=n+63) (k:=k+10) (g:=[St s fl,.dat (W m ao),.dat (~~~t),.no,.no,.no,.no,.no]) (i:=0) (s:=s) (fl:=fl) rfl
 have zb:aK (rn (n+123)) (bY 16) (k+11) [.var 0] [St s fl,.dat (W m ao),.dat (~~~t),.no,.no,.no,.no,.no]=some (.dat w,[St s1 fl,.dat (W m ao),.dat (~~~t),.no,.no,.no,.no,.no]):=q1
 have e1:aF (rn (n+125)) [0] (k+12) (.tgt (.tp [6,7]) (.tup [(.ix (.slot 1) (.val (.int 0))),(.call 25 [(.slot 0)])])) [St s fl,.dat (W m ao),.dat (~~~t),.no,.no,.no,.no,.no]=some (.nx,[St s1 fl,.dat (W m ao),.dat (~~~t),.no,.no,.no,.dat (.int m),.dat w]):=by
  simp! [U,Tg.ix,i0,c25,zb,ak 2 (by decide)]
  rfl
 obtain⟨b,s2,hb,q2⟩:=Cz U c16 (n:=n+63) (k:=k+10) (g:=[St s1 fl,.dat (W m ao),.dat (~~~t),.no,.no,.no,.dat (.int m),.dat w]) (i:=0) (s:=s1) (fl:=fl) rfl
 have xB:aK (rn (n+123)) (gW 16) (k+11) [.var 0,.dat (.int 6)] [St s1 fl,.dat (W m ao),.dat (~~~t),.no,.no,.no,.dat (.int m),.dat w]=some (.dat b,[St s2 fl,.dat (W m ao),.dat (~~~t),.no,.no,.no,.dat (.int m),.dat w]):=q2
 obtain⟨d,s3,hd,q3⟩:=z7 U c16 (n:=n+63) (k:=k+10) (g:=[St s2 fl,.dat (W m ao),.dat (~~~t),.no,.no,.no,.dat (.int m),.dat w]) (i:=0) (s:=s2) (fl:=fl) m hm t ht rfl
 have Bc:aK (rn (n+123)) (mY 16) (k+11) [.var 0,.dat (~~~t)] [St s2 fl,.dat (W m ao),.dat (~~~t),.no,.no,.no,.dat (.int m),.dat w]=some (.dat d,[St s3 fl,.dat (W m ao),.dat (~~~t),.no,.no,.no,.dat (.int m),.dat w]):=q3
 have e2:aF (rn (n+125)) [0] (k+12) (.tgt (.tp [4,5]) (.tup [(.call 26 [(.slot 0),(.val (.int 6))]),(.call 24 [(.slot 0),(.slot 2)])])) [St s1 fl,.dat (W m ao),.dat (~~~t),.no,.no,.no,.dat (.int m),.dat w]=some (.nx,[St s3 fl,.dat (W m ao),.dat (~~~t),.no,.dat b,.dat d,.dat (.int m),.dat w]):=by
  simp! [U,Tg.ix,c26,xB,c24,Bc,ak 2 (by decide)]
  rfl
 have nz:List.map noOwn [St s3 fl,.dat (W m ao),.dat (~~~t),.no,.dat b,.dat d,.dat (.int m),.dat w]=[.no,.dat (W m ao),.dat (~~~t),.no,.dat b,.dat d,.dat (.int m),.dat w]:=rfl
 generalize hG:[St s3 fl,.dat (W m ao),.dat (~~~t),.no,.dat b,.dat d,.dat (.int m),.dat w]=GG at nz e2
 have g3:GG[3]?=some .no:=by rw[<- hG];rfl
 have y:=F.bd w hw
 have f0:fM (rn (n+122)) (k+9) (cX 6 8 10) [w,d]=some 0:=by
  unfold fM cX
  simp! [U,c6,uf (fx:=bF 3 0) rfl,y]
 have x0:(rn (n+123)).x [] (k+10) (.call 9 [(.slot 7),(.slot 5)]) (GG.map noOwn)=some (0,[.no,.dat (W m ao),.dat (~~~t),.no,.dat b,.dat d,.dat (.int m),.dat w]):=by
  rw[nz]
  simp! [U,c9,bJ (fx:=cX 6 8 10) rfl,f0]
 have r0:(rn (n+124)).e [0] (k+12) (.ig 28 1 gD (.call 9 [(.slot 7),(.slot 5)])) GG=some (.new [.int 0],GG):=Nq U (L:=n+123) (k:=k) x0 rfl F.a0
 have l0:(rn (n+124)).e [0] (k+12) (.lst [(.val (.int 0))]) GG=some (.new [.int 0],GG):=by simp! [U,ak 1 (by decide)]
 have e3:aF (rn (n+125)) [0] (k+12) sA GG=some (.nx,GG):=by
  have b0:(rn (n+125)).b [0] (k+12) [] GG=some (.nx,GG):=by rw[U.b];rfl
  have t0:(rn (n+125)).t [0] (k+12) (.cmp .NotEq (.ig 28 1 gD (.call 9 [(.slot 7),(.slot 5)])) (.lst [(.val (.int 0))])) GG=some (false,GG):=by
   rw[U.t]
   have cm:d8 .NotEq (.lst [.int 0]) (.lst [.int 0])=some false:=by simp[d8,eV,bL,dw,fO,fD,dep,deps]
   simp only[stepT,argsR,r0,l0,norm,pk,cm]
  simp only[sA,aF,t0,b0]
 have y1:=λn k=>wg U c0 c1 c2 (n:=n) (k:=k) b .non hb
 have y2:=λn k=>CP U c0 c1 c2 c7 c8 (n:=n) (k:=k) b .non .non hb
 have y3:=λn k=>Nc U c0 c1 c2 c7 c8 (n:=n) (k:=k) b .non hb
 have x1:(rn (n+124)).x [] (k+10) (.call 7 [(.slot 4),(.val .non)]) (GG.map noOwn)=some (1,[.no,.dat (W m ao),.dat (~~~t),.no,.dat b,.dat d,.dat (.int m),.dat w]):=by
  rw[nz]
  simp! [U,c7,bJ (fx:=bq 2 0) rfl,y1]
 have x2:(rn (n+124)).x [] (k+10) (.call 12 [(.slot 4),(.val .non),(.val .non)]) (GG.map noOwn)=some (1,[.no,.dat (W m ao),.dat (~~~t),.no,.dat b,.dat d,.dat (.int m),.dat w]):=by
  rw[nz]
  simp! [U,c12,eu (fx:=bK 8) rfl,y2]
 have x3:(rn (n+124)).x [] (k+10) (.call 13 [(.slot 4),(.val .non)]) (GG.map noOwn)=some (1,[.no,.dat (W m ao),.dat (~~~t),.no,.dat b,.dat d,.dat (.int m),.dat w]):=by
  rw[nz]
  simp! [U,c13,bJ (fx:=iP 8) rfl,y3]
 have hc1:gD[1]?=some 49:=rfl
 have hc2:gD[2]?=some 61:=rfl
 have e4:aF (rn (n+125)) [0] (k+12) sB GG=some (.nx,GG):=by
  have rs:(rn (n+125)).e [0] (k+12) (.refs 28 1 gD [(.call 7 [(.slot 4),(.val .non)]),(.call 12 [(.slot 4),(.val .non),(.val .non)]),(.call 13 [(.slot 4),(.val .non)])]) GG=some (.new [.lst [.int 1],.lst [.int 1],.lst [.int 1]],GG):=by
   rw[U.e]
   simp only[aN,rO,gX x1 hc1 F.a1,gX x2 hc1 F.a1,gX x3 hc1 F.a1]
  have cm:d8 .NotEq (.lst [.lst [.int 1],.lst [.int 1],.lst [.int 1]]) (.lst [.lst [.int 1],.lst [.int 1],.lst [.int 1]])=some false:=by simp[d8,eV,bL,dw,fO,fD,dep,deps]
  have rt:(rn (n+125)).e [0] (k+12) (.bin .Mult (.lst [(.lst [(.val (.int 1))])]) (.val (.int 3))) GG=some (.new [.lst [.int 1],.lst [.int 1],.lst [.int 1]],GG):=by
   have o:vt .Mult (.lst [.lst [.int 1]]) (.int 3)=some (.new [.lst [.int 1],.lst [.int 1],.lst [.int 1]]):=rfl
   simp! [U,ak 1 (by decide),o]
  unfold sB aF
  simp only[g3,rs,rt,norm,pk,cm]
  rfl
 have tl:=λn k=>qg U c22 (n:=n) (k:=k) m hm d hd
 have e5:aF (rn (n+125)) [0] (k+12) (.ite (.call 23 [(.slot 6),(.slot 5)]) [(.ret (.val (.bl true)))] []) GG=some (if kJ m d=true then .rt (.dat (.bl true))else .nx,GG):=by
  rw[<- hG]
  cases hT:kJ m d with
  |true=>
   rw[hT]at tl
   simp! [U,c23,aR (fx:=cW 22) rfl,tl]
  |false=>
   rw[hT]at tl
   simp! [U,c23,aR (fx:=cW 22) rfl,tl]
 refine⟨s3,?_⟩
 have hp:cT Ur.n [St s fl,.dat (W m ao),.dat (~~~t)]=[St s fl,.dat (W m ao),.dat (~~~t),.no,.no,.no,.no,.no]:=rfl
 have body:(rn (n+126)).b [0] (k+12) Ur.body [St s fl,.dat (W m ao),.dat (~~~t),.no,.no,.no,.no,.no]=some (.rt (.dat (.bl true)),GG):=by
  unfold Ur
  rw[U.b,aC e1,aC e2,aC e3,aC e4]
  cases hT:kJ m d with
  |true=>
   rw[hT]at e5
   unfold fH
   rw[e5]
   rfl
  |false=>
   rw[hT]at e5
   rw[aC (show aF (rn (n+125)) [0] (k+12) (.ite (.call 23 [(.slot 6),(.slot 5)]) [(.ret (.val (.bl true)))] []) GG=some (.nx,GG)from e5)]
   have z1:=λn k=>Il U c0 c1 c2 c7 c8 c4 c5 c3 c6 (le:=10) (n:=n) (k:=k) m ao hm h d hd hT
   have z2:=λn k=>Uj U c0 c1 c2 c7 c8 (n:=n) (k:=k) m hm t ht d hd hT
   have w1:(rn (n+124)).x [] (k+10) (.call 9 [(.slot 1),(.slot 5)]) (GG.map noOwn)=some (2,[.no,.dat (W m ao),.dat (~~~t),.no,.dat b,.dat d,.dat (.int m),.dat w]):=by
    rw[nz]
    simp! [U,c9,bJ (fx:=cX 6 8 10) rfl,z1]
   have w2:(rn (n+124)).x [] (k+10) (.call 12 [(.slot 6),(.slot 5),(.slot 2)]) (GG.map noOwn)=some (2,[.no,.dat (W m ao),.dat (~~~t),.no,.dat b,.dat d,.dat (.int m),.dat w]):=by
    rw[nz]
    simp! [U,c12,eu (fx:=bK 8) rfl,λn k=>(z2 n k).1]
   have w3:(rn (n+124)).x [] (k+10) (.call 12 [(.slot 6),(.slot 2),(.slot 5)]) (GG.map noOwn)=some (2,[.no,.dat (W m ao),.dat (~~~t),.no,.dat b,.dat d,.dat (.int m),.dat w]):=by
    rw[nz]
    simp! [U,c12,eu (fx:=bK 8) rfl,λn k=>(z2 n k).2.1]
   have w4:(rn (n+124)).x [] (k+10) (.call 13 [(.slot 6),(.slot 5)]) (GG.map noOwn)=some (2,[.no,.dat (W m ao),.dat (~~~t),.no,.dat b,.dat d,.dat (.int m),.dat w]):=by
    rw[nz]
    simp! [U,c13,bJ (fx:=iP 8) rfl,λn k=>(z2 n k).2.2]
   have rs:(rn (n+125)).e [0] (k+12) (.refs 28 1 gD [(.call 9 [(.slot 1),(.slot 5)]),(.call 12 [(.slot 6),(.slot 5),(.slot 2)]),(.call 12 [(.slot 6),(.slot 2),(.slot 5)]),(.call 13 [(.slot 6),(.slot 5)])]) GG=some (.new [.lst [.int 2],.lst [.int 2],.lst [.int 2],.lst [.int 2]],GG):=by
    rw[U.e]
    simp only[aN,rO,gX w1 hc2 F.a2,gX w2 hc2 F.a2,gX w3 hc2 F.a2,gX w4 hc2 F.a2]
   have rt:(rn (n+125)).e [0] (k+12) (.bin .Mult (.lst [(.lst [(.val (.int 2))])]) (.val (.int 4))) GG=some (.new [.lst [.int 2],.lst [.int 2],.lst [.int 2],.lst [.int 2]],GG):=by
    have o:vt .Mult (.lst [.lst [.int 2]]) (.int 4)=some (.new [.lst [.int 2],.lst [.int 2],.lst [.int 2],.lst [.int 2]]):=rfl
    simp! [U,ak 1 (by decide),o]
   have cm:d8 .Eq (.lst [.lst [.int 2],.lst [.int 2],.lst [.int 2],.lst [.int 2]]) (.lst [.lst [.int 2],.lst [.int 2],.lst [.int 2],.lst [.int 2]])=some true:=by simp[d8,eV,bL,dw,fO,fD,dep,deps]
   unfold fH sC aF
   simp only[g3,rs,rt,norm,pk,cm]
   rfl
 subst hG
 unfold aK
 simp only[vars,bQ,hi,List.map_cons,List.map_nil]
 rw[aav ⟨rfl,by simp⟩,hp,body]
 rfl
end
end K2
namespace K2
open Ev
theorem Us{t:List Int}(h:t.length<=1000):Sd 1 (~~~t):=⟨by rw[aaA];exact h,λx hx=>by obtain⟨i,_,rfl⟩:=aaD.mp hx;trivial⟩
theorem sd_w{m:Nat}{ao:List (List Int)}(h:Wb m ao):Sd 3 (W m ao):=⟨by simp,λx hx=>by
 simp only[aaj,aaO,abO]at hx
 rcases hx with rfl |rfl
 .
  trivial
 .
  refine⟨by rw[aaA];have:=h.len;lia,λx hx=>?_⟩
  obtain⟨y,hy,rfl⟩:=aaD.mp hx
  obtain⟨a,b,rfl,_⟩:=h.tie y hy
  exact Us (by simp)⟩
section
variable{k n:Nat}{g g1:G}{rn:Nat->Rn}(U:ud fns rn)(F:Fk rn n k)
include U
theorem things(m:Nat)(hm:1<=m/\m<=6)(ds:List D)(hd:∀d∈ds,nF d)(a0 a1 a2 a3 a5 a6 a7 a8 a9 a10:Slot):∃b8,mR (.nm 8) ((rn (n+129)).b [] (k+13) rY) ds [a0,a1,a2,a3,.dat (.int m),a5,a6,a7,a8,a9,a10]=some (.nx,[a0,a1,a2,a3,.dat (.int m),a5,a6,a7,b8,a9,a10]):=by
 obtain⟨g',⟨_,b8,rfl⟩,q⟩:=eF (T:=.nm 8) (b:=(rn (n+129)).b [] (k+13) rY) (λ(d:D)=>d)
  (I:=λ(l:List D) g=>(∀d∈l,nF d)/\∃(b8:Slot),g=[a0,a1,a2,a3,.dat (.int m),a5,a6,a7,b8,a9,a10])
  (step:=λd l g h=>by
   obtain⟨h1,b8,rfl⟩:=h
   have hd:=h1 d aah
   have q1:=λn k=>(gw U c0 c1 c2 (n:=n) (k:=k) m hm d hd).1
   have q2:=λn k=>qg U c22 (n:=n) (k:=k) m hm d hd
   have q3:=λn k=>kL U Ow 0 n k (.bl (kJ m d)) trivial
   simp only[Nat.mul_zero,Nat.add_zero]at q3
   have hz:List.map gG [a0,a1,a2,a3,.dat (.int m),a5,a6,a7,.dat d,a9,a10]=[gG a0,gG a1,gG a2,gG a3,.dat (.int m),gG a5,gG a6,gG a7,.dat d,gG a9,gG a10]:=rfl
   refine⟨_,[a0,a1,a2,a3,.dat (.int m),a5,a6,a7,.dat d,a9,a10],rfl,?_,λx hx=>h1 x (aaf _ hx),_,rfl⟩
   unfold rY
   simp! [U,hz,c7,aR (fx:=bq 2 0) rfl,q1,c23,aR (fx:=cW 22) rfl,q2,Ow,aR (fx:=cC 27) rfl,q3,flat]) ds [a0,a1,a2,a3,.dat (.int m),a5,a6,a7,a8,a9,a10] ⟨hd,_,rfl⟩
 rw[List.map_id' ds]at q
 exact⟨b8,q⟩
include F
theorem cell(ns:List Int)(hl:ns.length<=63)(j:Nat)(a2 a3 a4 a5 a6 a7 a8 a9 a10:Slot):∃b2 b3 b4 b5 b6 b7 b8 b9 b10,(rn (n+130)).b [] (k+13) wC [.dat (.fix (ns.map .int)),.dat (.int j),a2,a3,a4,a5,a6,a7,a8,a9,a10]=some (.nx,[.dat (.fix (ns.map .int)),.dat (.int j),b2,b3,b4,b5,b6,b7,b8,b9,b10]):=by
 obtain⟨s,fl,q1⟩:=Ih U c14 (n:=n+88) (k:=k+11) ns (by lia) j
 generalize hA0:Slot.dat (.fix (ns.map .int))=A0
 generalize hA1:Slot.dat (.int (j:Int))=A1
 have e1:aF (rn (n+129)) [] (k+13) (.set 2 (.call 15 [(.slot 0),(.slot 1)])) [A0,A1,a2,a3,a4,a5,a6,a7,a8,a9,a10]=some (.nx,[A0,A1,St s fl,a3,a4,a5,a6,a7,a8,a9,a10]):=by
  subst hA0 hA1
  simp! [U,c15,aR (fx:=lX 14) rfl,q1]
 obtain⟨m,ao,s1,hm,h,q2⟩:=Uq U c16 c17 c18 (n:=n+48) (k:=k+9) (g:=[A0,A1,St s fl,a3,a4,a5,a6,a7,a8,a9,a10]) (i:=2) (s:=s) (fl:=fl) rfl
 have xB:aK (rn (n+128)) (yI 16 17 18) (k+12) [.var 2,.dat (.int 6)] [A0,A1,St s fl,a3,a4,a5,a6,a7,a8,a9,a10]=some (.dat (W m ao),[A0,A1,St s1 fl,a3,a4,a5,a6,a7,a8,a9,a10]):=q2
 have e2:aF (rn (n+129)) [] (k+13) (.set 3 (.call 19 [(.slot 2),(.val (.int 6))])) [A0,A1,St s fl,a3,a4,a5,a6,a7,a8,a9,a10]=some (.nx,[A0,A1,St s1 fl,.dat (W m ao),a4,a5,a6,a7,a8,a9,a10]):=by
  simp! [U,c19,xB]
 have i0:Du (W m ao) (.int 0)=some (.int m):=rfl
 have e3:aF (rn (n+129)) [] (k+13) (.set 4 (.ix (.slot 3) (.val (.int 0)))) [A0,A1,St s1 fl,.dat (W m ao),a4,a5,a6,a7,a8,a9,a10]=some (.nx,[A0,A1,St s1 fl,.dat (W m ao),.dat (.int m),a5,a6,a7,a8,a9,a10]):=by
  simp! [U,i0]
 obtain⟨t,s2,ht,q3⟩:=z0 U c16 c18 (n:=n+48) (k:=k+10) (g:=[A0,A1,St s1 fl,.dat (W m ao),.dat (.int m),a5,a6,a7,a8,a9,a10]) (i:=2) (s:=s1) (fl:=fl) m hm rfl
 have Bc:aK (rn (n+128)) (jw 16 18) (k+12) [.var 2,.dat (.int m)] [A0,A1,St s1 fl,.dat (W m ao),.dat (.int m),a5,a6,a7,a8,a9,a10]=some (.dat (~~~t),[A0,A1,St s2 fl,.dat (W m ao),.dat (.int m),a5,a6,a7,a8,a9,a10]):=q3
 have e4:aF (rn (n+129)) [] (k+13) (.set 5 (.call 20 [(.slot 2),(.slot 4)])) [A0,A1,St s1 fl,.dat (W m ao),.dat (.int m),a5,a6,a7,a8,a9,a10]=some (.nx,[A0,A1,St s2 fl,.dat (W m ao),.dat (.int m),.dat (~~~t),a6,a7,a8,a9,a10]):=by
  simp! [U,c20,Bc]
 obtain⟨u,s3,hu,q4⟩:=z0 U c16 c18 (n:=n+48) (k:=k+10) (g:=[A0,A1,St s2 fl,.dat (W m ao),.dat (.int m),.dat (~~~t),a6,a7,a8,a9,a10]) (i:=2) (s:=s2) (fl:=fl) m hm rfl
 have q4':aK (rn (n+128)) (jw 16 18) (k+12) [.var 2,.dat (.int m)] [A0,A1,St s2 fl,.dat (W m ao),.dat (.int m),.dat (~~~t),a6,a7,a8,a9,a10]=some (.dat (~~~u),[A0,A1,St s3 fl,.dat (W m ao),.dat (.int m),.dat (~~~t),a6,a7,a8,a9,a10]):=q4
 have e5:aF (rn (n+129)) [] (k+13) (.set 6 (.call 20 [(.slot 2),(.slot 4)])) [A0,A1,St s2 fl,.dat (W m ao),.dat (.int m),.dat (~~~t),a6,a7,a8,a9,a10]=some (.nx,[A0,A1,St s3 fl,.dat (W m ao),.dat (.int m),.dat (~~~t),.dat (~~~u),a7,a8,a9,a10]):=by
  simp! [U,c20,q4']
 have tl:=ht.length
 have ul:=hu.length
 obtain⟨ds,s4,dl,hds,q5⟩:=CW (rn:=rn (n+127)) (bor:=[]) (k:=k+13) (i:=2) (j:=12) (nn:=11) (kk:=2) (fl:=fl) (it:=.dN (.val (.int 5))) (e:=.call 24 [(.slot 2),(.slot 5)]) (P:=nF) [A0,A1,St s3 fl,.dat (W m ao),.dat (.int m),.dat (~~~t),.dat (~~~u),a7,a8,a9,a10] s3 rfl [.int 0,.int 1,.int 2,.int 3,.int 4] (by
   have rr:cS 0 5=[.int 0,.int 1,.int 2,.int 3,.int 4]:=rfl
   simp! [U,gA,aP 5 (by decide),rr]) rfl (by simp) (by simp) (by simp) (by decide) λs G' h1 h2=>by
  have h5:=h2 5 (by decide) (by simp)
  simp only[List.getElem?_cons_succ,List.getElem?_cons_zero]at h5
  obtain⟨d,s',hd,q⟩:=z7 U c16 (n:=n+66) (k:=k+11) (g:=G') (i:=2) (s:=s) (fl:=fl) m hm t ht h1
  refine⟨d,s',hd,?_⟩
  have q':aK (rn (n+126)) (mY 16) (k+12) [.var 2,.dat (~~~t)] G'=some (.dat d,G'.set 2 (St s' fl)):=q
  simp! [U,h1,h5,c24,q']
 have q5':dh (rn (n+127)) [] (k+13) 11 2 (.nm 12) (.dN (.val (.int 5))) none (.call 24 [(.slot 2),(.slot 5)]) [A0,A1,St s3 fl,.dat (W m ao),.dat (.int m),.dat (~~~t),.dat (~~~u),a7,a8,a9,a10]=some (ds,[A0,A1,St s4 fl,.dat (W m ao),.dat (.int m),.dat (~~~t),.dat (~~~u),a7,a8,a9,a10]):=q5
 have fT:nF (~~~t):=⟨by rw[aaA];lia,λx hx=>Pl.ints hx⟩
 have e6:aF (rn (n+129)) [] (k+13) (.set 7 (.bin .Add (.lst [(.slot 5)]) (.comp 11 2 (.nm 12) (.dN (.val (.int 5))) none (.call 24 [(.slot 2),(.slot 5)])))) [A0,A1,St s3 fl,.dat (W m ao),.dat (.int m),.dat (~~~t),.dat (~~~u),a7,a8,a9,a10]=some (.nx,[A0,A1,St s4 fl,.dat (W m ao),.dat (.int m),.dat (~~~t),.dat (~~~u),.own (~~~t::ds),a8,a9,a10]):=by
  have o:=nZ [~~~t] ds (by rw[dl];simp)
  simp! [U,ak 1 (by decide),q5',o]
 obtain⟨b8,th⟩:=things U (n:=n) (k:=k) m hm (~~~t::ds) (λd hd=>(aaj.mp hd).elim (λe=>e▸fT) (hds d)) A0 A1 (St s4 fl) (.dat (W m ao)) (.dat (~~~t)) (.dat (~~~u)) (.dat (.lst (~~~t::ds))) a8 a9 a10
 have e7:aF (rn (n+129)) [] (k+13) (.loop (.nm 8) (.slot 7) rY) [A0,A1,St s4 fl,.dat (W m ao),.dat (.int m),.dat (~~~t),.dat (~~~u),.own (~~~t::ds),a8,a9,a10]=some (.nx,[A0,A1,St s4 fl,.dat (W m ao),.dat (.int m),.dat (~~~t),.dat (~~~u),.dat (.lst (~~~t::ds)),b8,a9,a10]):=by
  have hw:gA (rn (n+129)) [] (k+13) false (.slot 7) [A0,A1,St s4 fl,.dat (W m ao),.dat (.int m),.dat (~~~t),.dat (~~~u),.own (~~~t::ds),a8,a9,a10]=some (~~~t::ds,[A0,A1,St s4 fl,.dat (W m ao),.dat (.int m),.dat (~~~t),.dat (~~~u),.dat (.lst (~~~t::ds)),a8,a9,a10]):=by
   simp! [U,gA]
  generalize hb:(rn (n+129)).b [] (k+13) rY=bb at th
  simp only[aF,Tg.ix,Tg.pI,hw,hb,th]
  simp
 generalize hB7:Slot.dat (.lst (~~~t::ds))=B7 at e7
 have fz:∀(x9 x10:Slot),List.map gG [A0,A1,St s4 fl,.dat (W m ao),.dat (.int m),.dat (~~~t),.dat (~~~u),B7,b8,x9,x10]=[gG A0,gG A1,.dat (.lst [.int s4,.bl fl]),.dat (W m ao),.dat (.int m),.dat (~~~t),.dat (~~~u),gG B7,gG b8,gG x9,gG x10]:=λ_ _=>rfl
 have w1:=λn k=>CQ U c11 c0 c1 c2 c7 c8 c4 c5 c3 c6 c10 (n:=n) (k:=k) m ao t hm h ht
 have w2:=λn k=>um U (n:=n) (k:=k) m ao t h ht
 have w3:=λn k=>kL U Ow 3 n k (W m (tw t ao)) (sd_w (h.turn ht))
 simp only[Nat.reduceMul,Nat.add_assoc,Nat.reduceAdd]at w3
 have e8:aF (rn (n+129)) [] (k+13) (.ite (.not (.peek (.call 27 [(.call 9 [(.slot 3),(.slot 5)]),(.call 21 [(.slot 3),(.slot 5)])]))) [(.ret (.val (.bl false)))] []) [A0,A1,St s4 fl,.dat (W m ao),.dat (.int m),.dat (~~~t),.dat (~~~u),B7,b8,a9,a10]=some (.nx,[A0,A1,St s4 fl,.dat (W m ao),.dat (.int m),.dat (~~~t),.dat (~~~u),B7,b8,a9,a10]):=by
  simp! [U,fz,c9,aR (fx:=cX 6 8 10) rfl,w1,c21,aR (fx:=fj) rfl,w2,Ow,aR (fx:=cC 27) rfl,w3,flat]
 have hr:cS 0 m=(nums m).map .int:=gj m
 have p9:=kG (rn:=rn (n+127)) (bor:=[]) (k:=k+13) (g:=[A0,A1,St s4 fl,.dat (W m ao),.dat (.int m),.dat (~~~t),.dat (~~~u),B7,b8,a9,a10]) (g1:=[A0,A1,St s4 fl,.dat (W m ao),.dat (.int m),.dat (~~~t),.dat (~~~u),B7,b8,a9,a10]) (kk:=2) (nn:=11) (j:=12) (it:=.dN (.slot 4)) (e:=.ix (.slot 6) (.ix (.slot 5) (.slot 12))) (nums m) .int (λx=>.int (gt u (gt t x))) (by simp! [U,gA,aP m (by lia),hr]) rfl (by simp) (by simp) (by simp) (ak _ (by rw[iO];lia)) λx hx G' hG=>by
  have h5:G'[5]?=some (.dat (~~~t)):=hG.1 5 (by simp)
  have h6:G'[6]?=some (.dat (~~~u)):=hG.1 6 (by simp)
  have hx:=dO.mp hx
  have hy:=ht.jN hx
  simp! [U,hG.2,h5,h6,cJ (t:=t) (i:=x) (by lia),cJ (t:=u) (i:=gt t x) (by lia)]
 have m9:(nums m).map (λx=>D.int (gt u (gt t x)))=(t.map (gt u)).map .int:=by
  conv=>rhs;rw[<- yD tl]
  rw[List.map_map,List.map_map]
  rfl
 rw[m9]at p9
 have e9:aF (rn (n+129)) [] (k+13) (.set 9 (.blt .tuple [(.comp 11 2 (.nm 12) (.dN (.slot 4)) none (.ix (.slot 6) (.ix (.slot 5) (.slot 12))))])) [A0,A1,St s4 fl,.dat (W m ao),.dat (.int m),.dat (~~~t),.dat (~~~u),B7,b8,a9,a10]=some (.nx,[A0,A1,St s4 fl,.dat (W m ao),.dat (.int m),.dat (~~~t),.dat (~~~u),B7,b8,.dat (~~~(t.map (gt u))),a10]):=by
  simp! [U,p9]
 have v1:=λn k=>CN U c0 c1 c2 c7 c8 (n:=n) (k:=k) m t u hm ht hu
 have v3:=λn k=>kL U Ow 1 n k (~~~(t.map (gt u))) (Us (by rw[aaA];lia))
 simp only[Nat.reduceMul,Nat.add_assoc,Nat.reduceAdd]at v3
 have fz9:gG (.dat (~~~(t.map (gt u))))=.dat (~~~(t.map (gt u))):=rfl
 have e10:aF (rn (n+129)) [] (k+13) (.ite (.not (.peek (.call 27 [(.call 12 [(.slot 4),(.slot 5),(.slot 6)]),(.slot 9)]))) [(.ret (.val (.bl false)))] []) [A0,A1,St s4 fl,.dat (W m ao),.dat (.int m),.dat (~~~t),.dat (~~~u),B7,b8,.dat (~~~(t.map (gt u))),a10]=some (.nx,[A0,A1,St s4 fl,.dat (W m ao),.dat (.int m),.dat (~~~t),.dat (~~~u),B7,b8,.dat (~~~(t.map (gt u))),a10]):=by
  simp! [U,fz,fz9,c12,cE (fx:=bK 8) rfl,v1,Ow,aR (fx:=cC 27) rfl,v3,flat]
 generalize hB9:Slot.dat (~~~(t.map (gt u)))=B9 at e9 e10
 have p11:=kG (rn:=rn (n+127)) (bor:=[]) (k:=k+13) (g:=[A0,A1,St s4 fl,.dat (W m ao),.dat (.int m),.dat (~~~t),.dat (~~~u),B7,b8,B9,a10]) (g1:=[A0,A1,St s4 fl,.dat (W m ao),.dat (.int m),.dat (~~~t),.dat (~~~u),B7,b8,B9,a10]) (kk:=2) (nn:=11) (j:=12) (it:=.dN (.slot 4)) (e:=.meth .index (.slot 5) (.slot 12)) (nums m) .int (λx=>.int (t.idxOf x:Nat)) (by simp! [U,gA,aP m (by lia),hr]) rfl (by simp) (by simp) (by simp) (ak _ (by rw[iO];lia)) λx hx G' hG=>by
  have h5:G'[5]?=some (.dat (~~~t)):=hG.1 5 (by simp)
  simp! [U,hG.2,h5,cR,wz t x (ht.mem.mpr (dO.mp hx))]
 have m11:(nums m).map (λx=>D.int (t.idxOf x:Nat))=(inv m t).map .int:=by
  unfold inv nums
  rw[List.map_map,List.map_map]
  rfl
 rw[m11]at p11
 have e11:aF (rn (n+129)) [] (k+13) (.set 10 (.blt .tuple [(.comp 11 2 (.nm 12) (.dN (.slot 4)) none (.meth .index (.slot 5) (.slot 12)))])) [A0,A1,St s4 fl,.dat (W m ao),.dat (.int m),.dat (~~~t),.dat (~~~u),B7,b8,B9,a10]=some (.nx,[A0,A1,St s4 fl,.dat (W m ao),.dat (.int m),.dat (~~~t),.dat (~~~u),B7,b8,B9,.dat (~~~(inv m t))]):=by
  simp! [U,p11]
 have u1:=λn k=>Nb U c0 c1 c2 c7 c8 (n:=n) (k:=k) m t hm ht
 have u3:=λn k=>kL U Ow 1 n k (~~~(inv m t)) (Us (by unfold inv;simp;lia))
 simp only[Nat.reduceMul,Nat.add_assoc,Nat.reduceAdd]at u3
 have fz10:gG (.dat (~~~(inv m t)))=.dat (~~~(inv m t)):=rfl
 have e12:aF (rn (n+129)) [] (k+13) (.ite (.not (.peek (.call 27 [(.call 13 [(.slot 4),(.slot 5)]),(.slot 10)]))) [(.ret (.val (.bl false)))] []) [A0,A1,St s4 fl,.dat (W m ao),.dat (.int m),.dat (~~~t),.dat (~~~u),B7,b8,B9,.dat (~~~(inv m t))]=some (.nx,[A0,A1,St s4 fl,.dat (W m ao),.dat (.int m),.dat (~~~t),.dat (~~~u),B7,b8,B9,.dat (~~~(inv m t))]):=by
  simp! [U,fz,fz10,c13,aR (fx:=iP 8) rfl,u1,Ow,aR (fx:=cC 27) rfl,u3,flat]
 generalize hB10:Slot.dat (~~~(inv m t))=B10 at e11 e12
 obtain⟨s5,q13⟩:=refusals U F (g:=[A0,A1,St s4 fl,.dat (W m ao),.dat (.int m),.dat (~~~t),.dat (~~~u),B7,b8,B9,B10]) (i:=2) (s:=s4) (fl:=fl) m hm ao h t ht rfl
 have q13':aK (rn (n+126)) Ur (k+12) [.var 2,.dat (W m ao),.dat (~~~t)] [A0,A1,St s4 fl,.dat (W m ao),.dat (.int m),.dat (~~~t),.dat (~~~u),B7,b8,B9,B10]=some (.dat (.bl true),[A0,A1,St s5 fl,.dat (W m ao),.dat (.int m),.dat (~~~t),.dat (~~~u),B7,b8,B9,B10]):=q13
 have e13:aF (rn (n+129)) [] (k+13) (.ite (.not (.call 29 [(.slot 2),(.slot 3),(.slot 5)])) [(.ret (.val (.bl false)))] []) [A0,A1,St s4 fl,.dat (W m ao),.dat (.int m),.dat (~~~t),.dat (~~~u),B7,b8,B9,B10]=some (.nx,[A0,A1,St s5 fl,.dat (W m ao),.dat (.int m),.dat (~~~t),.dat (~~~u),B7,b8,B9,B10]):=by
  simp! [U,c29,q13']
 refine⟨St s5 fl,.dat (W m ao),.dat (.int m),.dat (~~~t),.dat (~~~u),B7,b8,B9,B10,?_⟩
 unfold wC
 rw[U.b,aC e1,aC e2,aC e3,aC e4,aC e5,aC e6,aC e7,aC e8,aC e9,aC e10,aC e11,aC e12,aC e13]
 rfl
theorem whole(ns:List Int)(hl:ns.length<=63):∃g',(rn (n+131)).b [] (k+13) Vj.body [.dat (.fix (ns.map .int)),.no,.no,.no,.no,.no,.no,.no,.no,.no,.no]=some (.rt (.dat (.bl true)),g'):=by
 have loop:=eF (T:=.nm 1) (b:=(rn (n+130)).b [] (k+13) wC) (λ(j:Nat)=>D.int (0+(j:Int)))
  (I:=λ(l:List Nat) g=>∃(s1 s2 s3 s4 s5 s6 s7 s8 s9 Vk:Slot),g=[.dat (.fix (ns.map .int)),s1,s2,s3,s4,s5,s6,s7,s8,s9,Vk])
  (step:=λa l g h=>by
   obtain⟨s1,s2,s3,s4,s5,s6,s7,s8,s9,Vk,rfl⟩:=h
   rw[Int.zero_add]
   obtain⟨b2,b3,b4,b5,b6,b7,b8,b9,b10,q⟩:=cell U F ns hl a s2 s3 s4 s5 s6 s7 s8 s9 Vk
   exact⟨_,_,rfl,q,_,_,_,_,_,_,_,_,_,_,rfl⟩)
 obtain⟨M,hM,hM2⟩:∃M:Nat,M<=8/\(if ((if (8:Int)<ns.length then 8 else (ns.length:Int))) > 1 then (if (8:Int)<ns.length then 8 else (ns.length:Int))else 1)=(M:Int):=by
  refine⟨(if ((if (8:Int)<ns.length then 8 else (ns.length:Int))) > 1 then (if (8:Int)<ns.length then 8 else (ns.length:Int))else 1).toNat,?_,?_⟩
  .
   split <;> (try split) <;> lia
  .
   split <;> (try split) <;> lia
 obtain⟨g2,⟨s1,s2,s3,s4,s5,s6,s7,s8,s9,Vk,rfl⟩,h4⟩:=loop (List.range M) [.dat (.fix (ns.map .int)),.no,.no,.no,.no,.no,.no,.no,.no,.no,.no] ⟨_,_,_,_,_,_,_,_,_,_,rfl⟩
 have hv:dY (rn (n+130)) [] (k+13) (.blt .max [(.val (.int 1)),(.blt .min [(.blt .len [(.slot 0)]),(.val (.int 8))])]) [.dat (.fix (ns.map .int)),.no,.no,.no,.no,.no,.no,.no,.no,.no,.no]=some (.int (M:Int),[.dat (.fix (ns.map .int)),.no,.no,.no,.no,.no,.no,.no,.no,.no,.no]):=by
  rw[<- hM2]
  simp! [U,pZ]
 have hw:gA (rn (n+130)) [] (k+13) false (.dN (.blt .max [(.val (.int 1)),(.blt .min [(.blt .len [(.slot 0)]),(.val (.int 8))])])) [.dat (.fix (ns.map .int)),.no,.no,.no,.no,.no,.no,.no,.no,.no,.no]=some ((List.range M).map λ(x:Nat)=>D.int (0+(x:Int)),[.dat (.fix (ns.map .int)),.no,.no,.no,.no,.no,.no,.no,.no,.no,.no]):=by
  unfold gA
  dsimp only
  rw[hv]
  dsimp only
  rw[aav (aP M (by lia)),abW]
  rfl
 have e1:aF (rn (n+130)) [] (k+13) (.loop (.nm 1) (.dN (.blt .max [(.val (.int 1)),(.blt .min [(.blt .len [(.slot 0)]),(.val (.int 8))])])) wC) [.dat (.fix (ns.map .int)),.no,.no,.no,.no,.no,.no,.no,.no,.no,.no]=some (.nx,[.dat (.fix (ns.map .int)),s1,s2,s3,s4,s5,s6,s7,s8,s9,Vk]):=by
  simp only[aF,Tg.ix,Tg.pI,hw,h4]
  simp
 refine⟨[.dat (.fix (ns.map .int)),s1,s2,s3,s4,s5,s6,s7,s8,s9,Vk],?_⟩
 unfold Vj
 rw[U.b,aC e1]
 simp! [U,U.e]
end
noncomputable def rfB(rn:Rn)(k:Nat)(C:Nat)(c:Int):Bool:=match rn.b [] k (Vi.body.drop 2) ((List.replicate Vi.n .no).set 1 (.dat (.mC C)))with
 |some (.rt r,g3)=>(match dz [] g3 r with |some (.new [.int c'])=>decide (c'=c) |_=>false)
 |_=>false
theorem yJ{rn:Rn}{k C:Nat}{c:Int}(h:rfB rn k C c=true):CZ rn k C c:=by
 unfold rfB at h
 split at h
 .
  rename_i r g3 e
  split at h
  .
   rename_i c' e2
   rw[aaH h]at e2
   exact⟨r,g3,e,e2⟩
  .
   cases h
 .
  cases h
theorem Nr:(nG.all λd=>decide (fM (run fns (0+120)) (0+8) (bF 3 0) [d]=some 0))=true:=by decide +kernel
theorem Ut:Fk (run fns) 0 0:=⟨λd hd=>aaH (aaK.mp Nr d hd),yJ (by decide +kernel),yJ (by decide +kernel),yJ (by decide +kernel)⟩
noncomputable def kk:Nat:=13
noncomputable def fuel:Nat:=131
theorem hev(ns:List Int)(hl:ns.length<=63):∃g',(run fns fuel).b [] kk Vj.body (cT 11 [.dat (.fix (ns.map .int))])=some (.rt (.dat (.bl true)),g'):=whole (MT fns) Ut ns hl
end K2
namespace Ev
open L2
noncomputable def Yc:Value->Bool
 |.str _ _=>true
 |_=>false
noncomputable def Nt:Value->Bool
 |.int _ _=>true
 |_=>false
noncomputable def Ox:Value->Bool
 |.bool _=>true
 |_=>false
noncomputable def Nu(n:String):Value->Bool
 |.type m=>decide (m=n)
 |_=>false
noncomputable def Uu(q:Addr):Option Value->Bool
 |some (.ref p)=>decide (p=q)
 |_=>false
theorem ur{n:String}{v:Value}(h:Nu n v=true):v=.type n:=by
 unfold Nu at h
 split at h
 .
  rw[aaH h]
 .
  cases h
theorem Nv{q:Addr}{v:Option Value}(h:Uu q v=true):v=some (.ref q):=by
 unfold Uu at h
 split at h
 .
  rw[aaH h]
 .
  cases h
noncomputable def codeOk(K:Frag)(c q:Addr):Bool:=match K.lookup c with
 |some o=>(match o.data with
  |.fields vs=>Nu "code" o.cls&&Uu q vs[11]?&&Yc (vs.getD 18 .none)&&Nt (vs.getD 7 .none)&&Ox (vs.getD 9 .none)&&Nt (vs.getD 10 .none)&&decide (c≠q)
  |_=>false)
 |none=>false
theorem rZ{K:Frag}{h:Heap}{c q:Addr}(X:K.In h)(e:codeOk K c q=true):PySem.W.CodeHd h c q/\∃o vs,h.get? c=some o/\o.cls=.type "code" /\o.data=.fields vs/\vs[11]?=some (.ref q):=by
 unfold codeOk at e
 split at e
 .
  rename_i o ho
  split at e
  .
   rename_i vs hv
   simp only[aao,aaz]at e
   obtain⟨⟨⟨⟨⟨⟨e1,e2⟩,e3⟩,e4⟩,e5⟩,e6⟩,e7⟩:=e
   have r:=Nv e2
   have d:vs.getD 11 .none=.ref q:=by rw[abr,r];rfl
   unfold Yc at e3
   split at e3
   .
    rename_i file tf h3
    unfold Nt at e4
    split at e4
    .
     rename_i fl tg h4
     unfold Ox at e5
     split at e5
     .
      rename_i b h5
      unfold Nt at e6
      split at e6
      .
       rename_i tx tt h6
       exact⟨⟨o,vs,file,tf,fl,tg,b,tx,tt,X _ _ ho,ur e1,hv,r,d,h3,h4,h5,h6,e7⟩,o,vs,X _ _ ho,ur e1,hv,r⟩
      .
       cases e6
     .
      cases e5
    .
     cases e4
   .
    cases e3
  .
   cases e
 .
  cases e
noncomputable def Io(K:Frag)(c:Addr):Bool:=K.all λp=>decide (p.1=c)||!PySem.W.codeIn [p] (.ref p.1) "_law_refusals_right"
theorem lookup_mem{β:Type}:∀{l:List (Addr×β)}{a:Addr}{b:β},l.lookup a=some b->(a,b)∈l
 | [],_,_,h=>by cases h
 | (x,y)::l,a,b,h=>by
  rw[aa4]at h
  by_cases e:a=x
  .
   subst e
   simp at h
   subst h
   exact aah
  .
   have:(a==x)=false:=by simpa using e
   rw[this]at h
   exact aaf _ (lookup_mem h)
noncomputable def Uv(K:Frag)(bm q:Addr):Bool:=match K.lookup bm with
 |some ⟨c,some d,.plain,_⟩=>Nu "module" c&&decide (d=builtinsNs)&&decide (bm≠builtinsNs)&&decide (bm≠mainGlobals)&&decide (bm≠q)
 |_=>false
theorem Uw{K:Frag}{mg:Str->Option Value}{h:Heap}{c q bm:Addr}(X:K.In h)(G:h.Ns mainGlobals mg)(e1:Io K c=true)(e2:codeOk K c q=true)(e3:cF K=[(q,je)])(e4:PySem.W.nsIn K mainGlobals "__builtins__" = some (some (.ref bm)))(e5:Uv K bm q=true)(e6:mainGlobals≠q) :
  ∀bB,PySem.W.codeIn K bB "_law_refusals_right" = true->GQ K mg bB:=λbB hc=>by
 cases bB with
 |ref c'=>
  cases hl:K.lookup c' with
  |none=>
   unfold PySem.W.codeIn at hc
   simp only[hl]at hc
   cases hc
  |some o=>
   have hm:=lookup_mem hl
   have e0:PySem.W.codeIn [(c',o)] (.ref c') "_law_refusals_right" = PySem.W.codeIn K (.ref c') "_law_refusals_right" :=by
    have h1:List.lookup c' [(c',o)]=some o:=by simp
    unfold PySem.W.codeIn
    simp only[hl,h1]
   have ec:c'=c:=by
    have:=aaK.mp e1 _ hm
    dsimp only at this
    rw[e0,hc]at this
    simpa using this
   subst ec
   refine⟨c',q,rfl,λb hb=>(rZ hb e2).1,by rw[e3];exact aah,λb hb=>?_,e6⟩
   unfold Uv at e5
   split at e5
   .
    rename_i cc d sl hb2
    simp only[aao,aaz]at e5
    obtain⟨⟨⟨⟨f1,f2⟩,f3⟩,f4⟩,f5⟩:=e5
    exact⟨bm,_,acH X G e4,f3,f4,f5,hb _ _ hb2,ur f1,by rw[f2],rfl⟩
   .
    cases e5
 |_=>cases hc
theorem wD{q:Addr}{K:Params->Frag}{w:World}{h:Heap}(e:(K w.params).lookup q=none)(Y:PySem.W.InK (qP q K) w h):(K w.params).In h:=λa o ho=>by
 refine Y a o ?_
 show List.lookup a ((q,_)::K w.params)=_
 rw[aa4]
 have:(a==q)=false:=by
  by_cases z:a=q
  .
   rw[z,e]at ho;cases ho
  .
   simpa using z
 rw[this]
 exact ho
theorem Dc{c q:Addr}{K:Params->Frag}{w:World}{h:Heap}(e:(K w.params).lookup q=none)(e2:codeOk (K w.params) c q=true)(Y:PySem.W.InK (qP q K) w h):∀p∈[q],(∃c,h.TableAt c p #[])/\(K w.params).lookup p=none:=λp hp=>by
 cases aaC.mp hp
 refine⟨⟨c,(rZ (wD e Y) e2).2,Y _ _ ?_⟩,e⟩
 show List.lookup q ((q,_)::K w.params)=_
 simp
theorem Ip{l:PySem.W.OpenLaw}{n k:Nat}{q:Program}{loose:List Str}{XP:(Str->Option Value)->Heap->Prop}{YP:World->Heap->Prop}{d:DefRec}{K:Params->Frag}{CX:Al}{sp:Frag->Sp}{x:Str}{T:List Addr}
  (hn:l.most=some n) (hn2:n<=sizeLine) (iQ:d.params.defaults=[]) (hr:cu k callerA)
  (hY:∀(w:World) (h:Heap),YP w h->(K w.params).In h) (hT:∀(w:World) (h:Heap),YP w h->∀q∈T,(∃c,h.TableAt c q #[])/\(K w.params).lookup q=none)
  (F:∀(w:World) (mg:Str->Option Value) (fa:Addr) (h:Heap),(K w.params).In h->h.Ns mainGlobals mg->mg d.name=some (.ref fa)->
   ∃fd:FuncData,(∀(s:Shared) (u:Value),BindsTo s fd ⟨[u],[]⟩ [(x,u)])/\
    ∀base:Heap,(K w.params).In base->base.Ns mainGlobals mg->iW l.prog w (K w.params) mg base CX k fa fd [x] (sp (K w.params)))
  (UT:∀(w:World) (H:Hp) (a:Addr) (ns:List Int),ns.length<=n->zF T H->cK (K w.params) H a (ns.map V.int)->sp (K w.params) [.ref a] H (λv _=>v=.bl true) λ_ _ _=>False)
  (hCX:∀(H:Hp) (s:Shared) (e:Value) (s':Shared),CX [] H s (λ_ _ _=>False) e s'->False) :
  PySem.W.WalkO q loose XP YP l.row.toRowW d [] (λf vs=>PySem.call f vs):=by
 refine Att.uL hn iQ λw s₀ s₁ mg mb fa o pm cd doc a vs ns G Y ho hd bD hmg hobj hints aL hg=>?_
 have KX:=hY w _ Y
 obtain⟨fd,hb,hF⟩:=F w mg fa _ KX G.T.g hmg
 exact BL KX (hT w _ Y) G.T.g G.T.b G.T.builtins G.T.nolimit hg hobj hints (aaI aL hn2) hr hF hb (λH hO hS=>UT w H a ns aL hO hS) λH e s'=>hCX H s₁ e s'
noncomputable def kitF(K:Frag)(C:Addr):Bool:=["int", "bool", "str", "tuple", "list", "dict"].all λn=>decide (PySem.W.kitOne K (.ref C) (.type n)=some false)
theorem yK{K:Frag}{C:Addr}(h1:PySem.W.findIn K (.ref C) "__getattribute__" = some (some (.builtin "BaseException.__getattribute__")))(h8:PySem.W.findIn K (.ref C) "__getattr__" = some none)(h9:PySem.W.mroIn K C (.type "BaseException")=some true)(h2:PySem.W.hasDictIn K C=true)(h3:PySem.W.findIn K (.ref C) "__class__" = some (some (.builtin "object.__class__")))(h4:PySem.W.specialIn K (.builtin "object.__class__") "__get__" = some (some (.builtin "getset_descriptor.__get__")))(h5:PySem.W.takesIn K (.builtin "object.__class__")=some true)(h6:PySem.W.mroIn K C (.type "object")=some true)(h7:kitF K C=true):Dm K C:=
 ⟨h1,h8,h9,h2,h3,h4,h5,h6,λn hn=>aaH (aaK.mp h7 n hn)⟩
noncomputable def jP(K:Frag)(cv:Value)(l:List (Addr×Bool)):Bool:=decide (PySem.W.kitOne K (.type "NoneType") cv=some false)&&l.all λp=>decide (PySem.W.kitOne K (.ref p.1) cv=some p.2)
theorem dH{P:Pg}{K:Frag}{mg:Str->Option Value}{h:Heap}{x:Str}{l:List (Addr×Bool)}{D:Addr}(X:K.In h)(G:h.Ns mainGlobals mg)(e1:(x==("__debug__" : Str))=false)(e2:PySem.W.nsIn K mainGlobals x=some (some (.ref D)))(e3:jP K (.ref D) l=true) :
  (x==("__debug__" : Str))=false/\∃cv,((mg x=some cv/\∃D,cv=.ref D)\/(x∈P.bn/\x≠ "__name__" /\bootBuiltins x=some cv/\∃n,cv=.type n))/\PySem.W.kitOne K (.type "NoneType") cv=some false/\∀C b,l.lookup C=some b->PySem.W.kitOne K (.ref C) cv=some b:=by
 unfold jP at e3
 rw[aao]at e3
 exact⟨e1,.ref D,.inl ⟨acH X G e2,D,rfl⟩,aaH e3.1,λC b hl=>aaH (aaK.mp e3.2 _ (lookup_mem hl))⟩
theorem Iq{P:Pg}{K:Frag}{mg:Str->Option Value}{x:Str}{l:List (Addr×Bool)}{n:String}(e1:(x==("__debug__" : Str))=false)(e2:x∈P.bn)(e4:x≠ "__name__")(e5:bootBuiltins x=some (.type n))(e3:jP K (.type n) l=true) :
  (x==("__debug__" : Str))=false/\∃cv,((mg x=some cv/\∃D,cv=.ref D)\/(x∈P.bn/\x≠ "__name__" /\bootBuiltins x=some cv/\∃n,cv=.type n))/\PySem.W.kitOne K (.type "NoneType") cv=some false/\∀C b,l.lookup C=some b->PySem.W.kitOne K (.ref C) cv=some b:=by
 unfold jP at e3
 rw[aao]at e3
 exact⟨e1,.type n,.inr ⟨e2,e4,e5,n,rfl⟩,aaH e3.1,λC b hl=>aaH (aaK.mp e3.2 _ (lookup_mem hl))⟩
theorem Yd{P:Pg}{K:Frag}{mg:Str->Option Value}(h1:∀bB,PySem.W.codeIn K bB "_law_refusals_right" = true->GQ K mg bB)(h2:All (λp:Str×Addr=>mg p.1=some (.ref p.2)/\eL K p.2/\Dm K p.2) (P.cls.zip P.gD))(hl:P.gD.length<=P.cls.length)
  (h3:(P.kt==("__debug__" : Str))=false/\∃D,mg P.kt=some (.ref D)/\eL K D/\All (λC=>qG K C D=true) P.gD)
  (h4:All (λp:Str×List (Addr×Bool)=>(p.1==("__debug__" : Str))=false/\∃cv,((mg p.1=some cv/\∃D,cv=.ref D)\/(p.1∈P.bn/\p.1≠ "__name__" /\bootBuiltins p.1=some cv/\∃n,cv=.type n))/\PySem.W.kitOne K (.type "NoneType") cv=some false/\∀C b,p.2.lookup C=some b->PySem.W.kitOne K (.ref C) cv=some b) P.ups):Tr P K mg:=
 ⟨λ_=>h1,λi C e=>by
  have hi:i<P.gD.length:=(aai.mp e).1
  have hi2:i<P.cls.length:=by lia
  refine⟨P.cls[i],aaZ hi2,?_⟩
  have:=h2.mem (P.cls[i],C) (aaP (i:=i) (by rw[List.getElem?_zip_eq_some];exact⟨aaZ hi2,e⟩))
  exact this,λ_=>let ⟨a,D,b,c,d⟩:=h3;⟨a,D,b,c,λC hC=>d.mem C hC⟩,λx l h=>h4.mem (x,l) h⟩
end Ev
namespace K2
open L2 Ev
def f0:Fi:=cI (st 13)
def f1:Fi:=cI (st 14)
def f2:Fi:=cI (st 15)
def f3:Fi:=cI (st 18)
def f4:Fi:=cI (st 19)
def f5:Fi:=cI (st 20)
def f6:Fi:=cI (st 21)
def f7:Fi:=cI (st 22)
def f8:Fi:=cI (st 23)
def f9:Fi:=cI (st 24)
def f10:Fi:=cI (st 25)
def f11:Fi:=cI (st 26)
def f12:Fi:=cI (st 27)
def f13:Fi:=cI (st 28)
def f14:Fi:=cI (st 30)
def f15:Fi:=cI (st 31)
def f16:Fi:=cI (st 32)
def f17:Fi:=cI (st 33)
def f18:Fi:=cI (st 34)
def f19:Fi:=cI (st 35)
def f20:Fi:=cI (st 36)
def f21:Fi:=cI (st 37)
def f22:Fi:=cI (st 38)
def f23:Fi:=cI (st 39)
def f24:Fi:=cI (st 40)
def f25:Fi:=cI (st 41)
def f26:Fi:=cI (st 42)
def f27:Fi:=cI (st 43)
def f28:Fi:=cI (st 44)
def f29:Fi:=cI (st 45)
def Vl:Fi:=cI (st 46)
noncomputable def ups:List (Str×List (Addr×Bool)):=[("NoWeb",[(37,true),(49,false),(61,false)]),("NoNumber",[(37,false),(49,true),(61,false)]),("NoTurn",[(37,false),(49,false),(61,true)]),("NoKind",[(37,false),(49,false),(61,false)]),("NoPlace",[(37,false),(49,false),(61,false)]),("NoTie",[(37,false),(49,false),(61,false)]),("NoText",[(37,false),(49,false),(61,false)]),("NoLine",[(37,false),(49,false),(61,false)]),("NoDeed",[(37,false),(49,false),(61,false)]),("TooGreat",[(37,false),(49,false),(61,false)]),("ValueError",[(37,true),(49,true),(61,true)])]
noncomputable def P:Pg:=⟨[f0,f1,f2,f3,f4,f5,f6,f7,f8,f9,f10,f11,f12,f13,f14,f15,f16,f17,f18,f19,f20,f21,f22,f23,f24,f25,f26,f27,f28,f29,Vl],[("MOST_PLACES",.int 6)],["ValueError", "all", "bool", "int", "isinstance", "len", "list", "max", "min", "range", "sorted", "tuple", "zip"],["NoWeb", "NoNumber", "NoTurn"],true,[37,49,61], "KindError",ups⟩
theorem Ux:HQ P P.fn fns=true:=by decide +kernel
theorem nLaw:Vl.N.length=11:=rfl
theorem hevF:∀ns:List Int,ns.length<=63->∃g',(run fns fuel).b [] kk Vj.body (cT Vl.N.length [.dat (.fix (ns.map .int))])=some (.rt (.dat (.bl true)),g'):=by
 rw[nLaw]
 exact hev
theorem z9(P:Params):cF (K P)=[(nat_lit 333,je)]:=by kernel_rfl
theorem Ir(P:Params):(K P).lookup (nat_lit 333)=none:=by kernel_rfl
theorem Aa(P:Params):codeOk (K P) (nat_lit 335) (nat_lit 333)=true:=by kernel_rfl
theorem Nx(P:Params):Io (K P) (nat_lit 335)=true:=by kernel_rfl
theorem Ye(P:Params):Uv (K P) (nat_lit 4) (nat_lit 333)=true:=by kernel_rfl
theorem Iu(P:Params):Dm (K P) (nat_lit 37):=yK (by kernel_rfl) (by kernel_rfl) (by kernel_rfl) (by kernel_rfl) (by kernel_rfl) (by kernel_rfl) (by kernel_rfl) (by kernel_rfl) (by kernel_rfl)
theorem wF(P:Params):eL (K P) (nat_lit 37):=by kernel_rfl
theorem Iv(P:Params):qG (K P) (nat_lit 37) (nat_lit 24)=true:=by kernel_rfl
theorem wG(P:Params):Dm (K P) (nat_lit 49):=yK (by kernel_rfl) (by kernel_rfl) (by kernel_rfl) (by kernel_rfl) (by kernel_rfl) (by kernel_rfl) (by kernel_rfl) (by kernel_rfl) (by kernel_rfl)
theorem ng(P:Params):eL (K P) (nat_lit 49):=by kernel_rfl
theorem wH(P:Params):qG (K P) (nat_lit 49) (nat_lit 24)=true:=by kernel_rfl
theorem Dd(P:Params):Dm (K P) (nat_lit 61):=yK (by kernel_rfl) (by kernel_rfl) (by kernel_rfl) (by kernel_rfl) (by kernel_rfl) (by kernel_rfl) (by kernel_rfl) (by kernel_rfl) (by kernel_rfl)
theorem r9(P:Params):eL (K P) (nat_lit 61):=by kernel_rfl
theorem De(P:Params):qG (K P) (nat_lit 61) (nat_lit 24)=true:=by kernel_rfl
theorem uv(P:Params):eL (K P) (nat_lit 24):=by kernel_rfl
theorem Iw(P:Params):jP (K P) (.ref (nat_lit 37)) [(37,true),(49,false),(61,false)]=true:=by kernel_rfl
theorem wI(P:Params):jP (K P) (.ref (nat_lit 49)) [(37,false),(49,true),(61,false)]=true:=by kernel_rfl
theorem Df(P:Params):jP (K P) (.ref (nat_lit 61)) [(37,false),(49,false),(61,true)]=true:=by kernel_rfl
theorem Dg(P:Params):jP (K P) (.ref (nat_lit 73)) [(37,false),(49,false),(61,false)]=true:=by kernel_rfl
theorem yL(P:Params):jP (K P) (.ref (nat_lit 85)) [(37,false),(49,false),(61,false)]=true:=by kernel_rfl
theorem Iz(P:Params):jP (K P) (.ref (nat_lit 97)) [(37,false),(49,false),(61,false)]=true:=by kernel_rfl
theorem Dh(P:Params):jP (K P) (.ref (nat_lit 109)) [(37,false),(49,false),(61,false)]=true:=by kernel_rfl
theorem Di(P:Params):jP (K P) (.ref (nat_lit 121)) [(37,false),(49,false),(61,false)]=true:=by kernel_rfl
theorem Dj(P:Params):jP (K P) (.ref (nat_lit 133)) [(37,false),(49,false),(61,false)]=true:=by kernel_rfl
theorem wJ(P:Params):jP (K P) (.ref (nat_lit 152)) [(37,false),(49,false),(61,false)]=true:=by kernel_rfl
theorem qN(P:Params):jP (K P) (.type "ValueError") [(37,true),(49,true),(61,true)]=true:=by kernel_rfl
end K2
open PySem PySem.W PyProof.Rows
set_option maxHeartbeats 0 in
theorem PySem.Challenge.cw_websbykind_k02_turns_known_holds : PySem.Challenge.rw_websbykind_k02_turns_known.Holds := by
 w_on
 refine PySem.W.holds_law (by decide +kernel) λsaid=>?_
 refine PySem.W.holds_open (q:=K2.qv) (loose:=[]) (Xt:=λs=>xlAt K2.qv [] s&&recOk (OpenRow.toRowW PySem.Challenge.rw_websbykind_k02_turns_known.row).records s) (XP:=XL K2.qv []) (Yf:=λs=>K2.as2.map s.heap.get?) (Ya:=λw=>(Ev.qP 333 K2.K w.params).map λp:Nat×Obj=>some p.2) (YP:=InK (Ev.qP 333 K2.K)) (N:=8000) K2.hl (InK.of K2.Vm) InK.keeps (λs e=>xl_of s (Bool.and_eq_true_iff.mp e).1) XL.keeps (by rfl) (by rfl) (by rfl) (λs e=>recFacts_of (Bool.and_eq_true_iff.mp e).2) (by rfl) (by first |assumption |decide +kernel) (by decide +kernel) ⟨rfl,rfl,rfl,rfl,rfl,by decide +kernel⟩ ?hw ?hc
 (case hw=>w_witness2)
 k_fill
 refine Ev.Ip (l:=PySem.Challenge.rw_websbykind_k02_turns_known) (n:=63) (k:=K2.kk+1) (x:= "_law_script") (CX:=L2.uB) (K:=K2.K) (T:=[333]) (sp:=λK=>Ev.Kc K K2.Vl.N 1 λbor g r g'=>(Ev.run K2.fns K2.fuel).b bor K2.kk K2.Vj.body g=some (.rt r,g')) rfl (by decide) rfl ⟨rfl,by decide,by decide⟩ (λw h Y=>Ev.wD (K2.Ir _) Y) (λw h Y=>Ev.Dc (K2.Ir _) (K2.Aa _) Y) ?F ?S ?C
 case F=>
  intro w mg fa h KX G hmg
  have mm:Ev.bW (L2.KOf KX) mg K2.f0/\Ev.bW (L2.KOf KX) mg K2.f1/\Ev.bW (L2.KOf KX) mg K2.f2/\Ev.bW (L2.KOf KX) mg K2.f3/\Ev.bW (L2.KOf KX) mg K2.f4/\Ev.bW (L2.KOf KX) mg K2.f5/\Ev.bW (L2.KOf KX) mg K2.f6/\Ev.bW (L2.KOf KX) mg K2.f7/\Ev.bW (L2.KOf KX) mg K2.f8/\Ev.bW (L2.KOf KX) mg K2.f9/\Ev.bW (L2.KOf KX) mg K2.f10/\Ev.bW (L2.KOf KX) mg K2.f11/\Ev.bW (L2.KOf KX) mg K2.f12/\Ev.bW (L2.KOf KX) mg K2.f13/\Ev.bW (L2.KOf KX) mg K2.f14/\Ev.bW (L2.KOf KX) mg K2.f15/\Ev.bW (L2.KOf KX) mg K2.f16/\Ev.bW (L2.KOf KX) mg K2.f17/\Ev.bW (L2.KOf KX) mg K2.f18/\Ev.bW (L2.KOf KX) mg K2.f19/\Ev.bW (L2.KOf KX) mg K2.f20/\Ev.bW (L2.KOf KX) mg K2.f21/\Ev.bW (L2.KOf KX) mg K2.f22/\Ev.bW (L2.KOf KX) mg K2.f23/\Ev.bW (L2.KOf KX) mg K2.f24/\Ev.bW (L2.KOf KX) mg K2.f25/\Ev.bW (L2.KOf KX) mg K2.f26/\Ev.bW (L2.KOf KX) mg K2.f27/\Ev.bW (L2.KOf KX) mg K2.f28/\Ev.bW (L2.KOf KX) mg K2.f29/\Ev.bW (L2.KOf KX) mg K2.Vl:=by
   refine⟨?_,?_,?_,?_,?_,?_,?_,?_,?_,?_,?_,?_,?_,?_,?_,?_,?_,?_,?_,?_,?_,?_,?_,?_,?_,?_,?_,?_,?_,?_,?_⟩ <;> (
    dsimp only[L2.KOf]
    exact Ev.XS (by assumption) (by assumption) (by k_is) (by k_is) (by k_is) (by k_is) ⟨rfl,rfl,rfl,by decide +kernel,by decide +kernel,by decide +kernel,by decide +kernel⟩ (λ_ _ _ _ _ _ us hl=>by first | (obtain⟨_,e⟩:=Ev.XT hl;subst e;rfl) | (obtain⟨_,_,e⟩:=Ev.XX hl;subst e;rfl) | (obtain⟨_,_,_,e⟩:=Ev.len3 hl;subst e;rfl) | (obtain⟨_,_,_,_,e⟩:=Ev.len4 hl;subst e;rfl)) (by decide))
  obtain⟨m0,m1,m2,m3,m4,m5,m6,m7,m8,m9,m10,m11,m12,m13,m14,m15,m16,m17,m18,m19,m20,m21,m22,m23,m24,m25,m26,m27,m28,m29,m30⟩:=mm
  have qO:Ev.Tq (L2.KOf KX) mg ("MOST_PLACES",.int 6):=by
   dsimp only[L2.KOf]
   refine' Ev.Tt KX G ?a (by decide)
   (case a=>k_is)
  have uw:mg "ValueError" = none:=mg_none_of KX G (by k_is)
  have Yg:mg "all" = none:=mg_none_of KX G (by k_is)
  have Uy:mg "bool" = none:=mg_none_of KX G (by k_is)
  have Yh:mg "int" = none:=mg_none_of KX G (by k_is)
  have ux:mg "isinstance" = none:=mg_none_of KX G (by k_is)
  have Yi:mg "len" = none:=mg_none_of KX G (by k_is)
  have Uz:mg "list" = none:=mg_none_of KX G (by k_is)
  have Yj:mg "max" = none:=mg_none_of KX G (by k_is)
  have Yk:mg "min" = none:=mg_none_of KX G (by k_is)
  have Ny:mg "range" = none:=mg_none_of KX G (by k_is)
  have IK:mg "sorted" = none:=mg_none_of KX G (by k_is)
  have Nz:mg "tuple" = none:=mg_none_of KX G (by k_is)
  have Yl:mg "zip" = none:=mg_none_of KX G (by k_is)
  have uy:PySem.W.nsIn (L2.KOf KX) mainGlobals "NoWeb" = some (some (.ref 37)):=by dsimp only[L2.KOf];k_is
  have jQ:PySem.W.nsIn (L2.KOf KX) mainGlobals "NoNumber" = some (some (.ref 49)):=by dsimp only[L2.KOf];k_is
  have qm:PySem.W.nsIn (L2.KOf KX) mainGlobals "NoTurn" = some (some (.ref 61)):=by dsimp only[L2.KOf];k_is
  have wK:PySem.W.nsIn (L2.KOf KX) mainGlobals "KindError" = some (some (.ref 24)):=by dsimp only[L2.KOf];k_is
  have IV:PySem.W.nsIn (L2.KOf KX) mainGlobals "NoKind" = some (some (.ref 73)):=by dsimp only[L2.KOf];k_is
  have Dk:PySem.W.nsIn (L2.KOf KX) mainGlobals "NoPlace" = some (some (.ref 85)):=by dsimp only[L2.KOf];k_is
  have NB:PySem.W.nsIn (L2.KOf KX) mainGlobals "NoTie" = some (some (.ref 97)):=by dsimp only[L2.KOf];k_is
  have IW:PySem.W.nsIn (L2.KOf KX) mainGlobals "NoText" = some (some (.ref 109)):=by dsimp only[L2.KOf];k_is
  have Ja:PySem.W.nsIn (L2.KOf KX) mainGlobals "NoLine" = some (some (.ref 121)):=by dsimp only[L2.KOf];k_is
  have Jb:PySem.W.nsIn (L2.KOf KX) mainGlobals "NoDeed" = some (some (.ref 133)):=by dsimp only[L2.KOf];k_is
  have yM:PySem.W.nsIn (L2.KOf KX) mainGlobals "TooGreat" = some (some (.ref 152)):=by dsimp only[L2.KOf];k_is
  have n_b:PySem.W.nsIn (L2.KOf KX) mainGlobals "__builtins__" = some (some (.ref 4)):=by dsimp only[L2.KOf];k_is
  have lm:Ev.Tr K2.P (L2.KOf KX) mg:=Ev.Yd (Ev.Uw KX G (K2.Nx _) (K2.Aa _) (K2.z9 _) n_b (K2.Ye _) (by decide)) (.cons ⟨mg_of KX G uy,K2.wF _,K2.Iu _⟩ (.cons ⟨mg_of KX G jQ,K2.ng _,K2.wG _⟩ (.cons ⟨mg_of KX G qm,K2.r9 _,K2.Dd _⟩ .nil))) (by decide) ⟨by decide,24,mg_of KX G wK,K2.uv _,(.cons (K2.Iv _) (.cons (K2.wH _) (.cons (K2.De _) .nil)))⟩ (.cons (Ev.dH KX G (by decide) uy (K2.Iw _)) (.cons (Ev.dH KX G (by decide) jQ (K2.wI _)) (.cons (Ev.dH KX G (by decide) qm (K2.Df _)) (.cons (Ev.dH KX G (by decide) IV (K2.Dg _)) (.cons (Ev.dH KX G (by decide) Dk (K2.yL _)) (.cons (Ev.dH KX G (by decide) NB (K2.Iz _)) (.cons (Ev.dH KX G (by decide) IW (K2.Dh _)) (.cons (Ev.dH KX G (by decide) Ja (K2.Di _)) (.cons (Ev.dH KX G (by decide) Jb (K2.Dj _)) (.cons (Ev.dH KX G (by decide) yM (K2.wJ _)) (.cons (Ev.Iq (by decide) (by decide) (by decide) rfl (K2.qN _)) .nil)))))))))))
  have md:Ev.tR K2.P (L2.KOf KX) mg:=Ev.XR (.cons m0 (.cons m1 (.cons m2 (.cons m3 (.cons m4 (.cons m5 (.cons m6 (.cons m7 (.cons m8 (.cons m9 (.cons m10 (.cons m11 (.cons m12 (.cons m13 (.cons m14 (.cons m15 (.cons m16 (.cons m17 (.cons m18 (.cons m19 (.cons m20 (.cons m21 (.cons m22 (.cons m23 (.cons m24 (.cons m25 (.cons m26 (.cons m27 (.cons m28 (.cons m29 (.cons m30 .nil))))))))))))))))))))))))))))))) (.cons qO .nil) (.cons uw (.cons Yg (.cons Uy (.cons Yh (.cons ux (.cons Yi (.cons Uz (.cons Yj (.cons Yk (.cons Ny (.cons IK (.cons Nz (.cons Yl .nil))))))))))))) (.cons (Ev.HJ KX G uy (K2.wF _) (by decide)) (.cons (Ev.HJ KX G jQ (K2.ng _) (by decide)) (.cons (Ev.HJ KX G qm (K2.r9 _) (by decide)) .nil))) lm
  exact Ev.HN (Ev.TF K2.Ux) md (i:=30) (fi:=K2.Vl) rfl rfl rfl m30 hmg
 case S=>exact λw H a ns hl hO hS=>Ev.Tw K2.hevF (K2.K w.params) H a ns hl (by rw[K2.z9];exact hO) hS
 case C=>exact λ_ _ _ _ z=>z
